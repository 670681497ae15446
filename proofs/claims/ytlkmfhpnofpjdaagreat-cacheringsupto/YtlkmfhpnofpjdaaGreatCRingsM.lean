/-
  CacheRings returns true: the walk.
-/
import Derived.Test.YtlkmfhpnofpjdaaGreatT2
import Derived.Shelf.SlicesE.DeleteFunc
import Derived.Test.YtlkmfhpnofpjdaaGreatT9
import Derived.Test.YtlkmfhpnofpjdaaGreatCacheS
import Derived.Test.YtlkmfhpnofpjdaaGreatCLawS
namespace Go.Proofs.YtlkmfhpnofpjdaaGreat
open Go.RowKit Go.Shelf Go.Sort Go.Lib

/-- Numbers that are ints. -/
abbrev SI := { x : Int // I64 x }
instance : Inhabited SI := ⟨⟨0, by unfold I64; omega⟩⟩
def encS (x : SI) : Value := .int .i64 x.1
open Classical in
noncomputable def toS (x : Int) : SI := if h : I64 x then ⟨x, h⟩ else default
theorem toS_val {x : Int} (h : I64 x) : (toS x).1 = x := by unfold toS; rw [dif_pos h]
theorem map_toS {l : List Int} (h : ∀ x, x ∈ l → I64 x) : (l.map toS).map (·.1) = l := by
  rw [List.map_map]
  conv => rhs; rw [← List.map_id l]
  exact List.map_congr_left fun x hx => toS_val (h x hx)
theorem putRow_sub (w : World) (g : Nat) (d : Array SI) : putRow encS w g 0 d = putRow (Value.int .i64) w g 0 (d.map (·.1)) := by
  unfold putRow
  congr 1
  funext c
  unfold putCells
  congr 1
  funext k x
  rw [Array.size_map]
  by_cases h : 0 ≤ k ∧ k < 0 + d.size
  · rw [if_pos h, if_pos h]
    have h1 : k - 0 < d.size := by omega
    rw [getElem!_pos d _ h1, getElem!_pos (d.map (·.1)) _ (by simpa using h1)]
    simp [encS]
  · rw [if_neg h, if_neg h]
theorem chg_grow (w : World) (os : Array Obj) (ks : Nat → Prop) : Chg w (grow w os) ks := by
  have h := below_grown w 0 os
  exact ⟨rfl, rfl, rfl, h.size, fun k hk _ => h.block k hk⟩
theorem sortWorld_chg (w : World) (blk n : Nat) (dk : Array SI) (os : Array Obj) : Chg w (sortWorld encS w blk 0 n dk os) (· = blk) := by
  have h1 : Chg w (putRow encS (Sort.ahead w n) blk 0 dk) (· = blk) := putRow_chg dk
  exact h1.trans (chg_grow _ os No) (fun _ _ e => e) (fun _ _ e => e.elim)

variable {w : World} {c p g n : Nat} {ρ : Nat → Option Role} {z : CSt}
open Classical in
/-- Is something to land ahead of it? -/
noncomputable def notFree (z : CSt) (x : SI) : Bool := !decide (FreeE z.E x.1)
set_option maxHeartbeats 1000000 in
theorem eligC_any (x : SI) (bx : Nat) (h : IsC w c p g n ρ z) (hb : w.cell? ⟨bx, 0, none⟩ = some (.pointer (some ⟨c, 0, none⟩))) : Calls Tryz.prog 71 #[encS x, .pointer (some ⟨bx, 0, none⟩)] w fun e w' => e = .returned (.bool (notFree z x)) ∧ w = w' := by
  obtain ⟨gp, mb, go, tv, lv, h⟩ := h
  have k1 := h.c1
  have HF := free_any x.1 h.gr x.2
  have HE : Hid (∀ r : Bool, (r = true ↔ ∀ a, ¬ z.E a x.1) → notFree z x = !r) := fun r hr => by
    unfold notFree
    cases r
    · have hf : ¬ FreeE z.E x.1 := fun k => by have := hr.2 k; cases this
      simp [hf]
    · have hf : FreeE z.E x.1 := hr.1 rfl
      simp [hf]
  unfold encS
  clear h
  go_enter Tryz.func71, Tryz.ntmps71
  go_wp2_with (first
    | (go_at_call 72; go_must (refine HF.mono ?_; rintro e w1 ⟨r, rfl, hr, rfl⟩; have HR := hid (HE.out r hr); clear HF hr))
    | fail)
  go_ret
  exact ⟨D.ret_bool HR.out.symm, rfl⟩

set_option maxHeartbeats 1000000 in
theorem idx_nil (a : Option Addr) (ca : Nat) (fv : Value) (w : World) : Calls Tryz.prog 112 #[.slice a 0 ca, fv] w fun e w' => e = .returned (.int .i64 (-1)) ∧ w = w' := by
  go_enter Tryz.func112, Tryz.ntmps112
  go_wp2_with fail
  go_loopw [5, 8] (fun _ i wr => i = .int .i64 0 ∧ w = wr) (fun _ _ _ => 0)
  case atStart => exact ⟨rfl, rfl⟩
  case round =>
    obtain ⟨rfl, rfl⟩ := hrel
    go_wp2_with fail
    go_ret
    exact ⟨rfl, rfl⟩
set_option maxHeartbeats 1000000 in
theorem delf_nil (a : Option Addr) (ca : Nat) (fv : Value) (w : World) : Calls Tryz.prog 70 #[.slice a 0 ca, fv] w fun e w' => e = .returned (.slice a 0 ca) ∧ w = w' := by
  have H := idx_nil a ca fv w
  go_enter Tryz.func70, Tryz.ntmps70
  go_wp2_with (first
    | (go_at_call 112; go_must (refine H.mono ?_; rintro e w1 ⟨rfl, rfl⟩; clear H))
    | fail)
  go_ret
  exact ⟨rfl, rfl⟩
theorem drew0 (w : World) : w = w.drewN 0 := rfl
set_option maxRecDepth 100000 in
set_option maxHeartbeats 1000000 in
theorem delf_ints (bx : Nat) (base : Nat) (v : Value) (l : List Int) (hl : ∀ x, x ∈ l → I64 x) (hn : l.length ≤ 4096) (h : IsC w c p g n ρ z) (hb : w.cell? ⟨bx, 0, none⟩ = some (.pointer (some ⟨c, 0, none⟩))) (hbx : bx < w.heap.size) (hI : Ints w base v l) (hown : ∀ k, v.ownBlock = some k → ¬ Own ρ k ∧ k ≠ bx) :
    Calls Tryz.prog 70 #[v, .func (.func 71) #[] #[.pointer (some ⟨bx, 0, none⟩)]] w fun e w' => ∃ v', e = .returned v' ∧ Ints w' base v' (l.filter fun x => !notFree z (toS x)) ∧ Chg w w' (fun k => v.ownBlock = some k) := by
  have hpred : ∀ (W : World) (x : SI), IsC W c p g n ρ z → W.cell? ⟨bx, 0, none⟩ = some (.pointer (some ⟨c, 0, none⟩)) → FnGives Tryz.prog 71 #[.pointer (some ⟨bx, 0, none⟩)] #[encS x] (.bool (notFree z x)) W := fun W x hW hc => by
    refine (eligC_any x bx hW hc).mono ?_
    rintro e w' ⟨rfl, rfl⟩
    exact ⟨rfl, 0, rfl⟩
  rcases hI.2 with ⟨rfl, h0⟩ | ⟨blk, cap, cur, rfl, hge, hbk, h1, h2, h3, h4⟩
  · have : l = [] := List.eq_nil_of_length_eq_zero h0
    subst this
    refine (delf_nil none 0 _ w).mono ?_
    rintro e w' ⟨rfl, rfl⟩
    exact ⟨_, rfl, World.ownsRow_nil _ _ _ _, Chg.refl _ _⟩
  · have hO := hown blk rfl
    have hd : (l.map toS).toArray.size = l.length := by simp
    have hmv : (l.map toS).map encS = l.map (Value.int .i64) := by
      rw [List.map_map]
      refine List.map_congr_left fun x hx => ?_
      show Value.int .i64 (toS x).1 = _
      rw [toS_val (hl x hx)]
    have hH : Holds encS w blk 0 (l.map toS).toArray := row_holds hbk (by rw [hmv, List.length_map, ← h4, Nat.mul_one])
    have hp : PredAt Tryz.prog 71 #[.pointer (some ⟨bx, 0, none⟩)] encS (notFree z) w := fun W x hB => hpred W x (h.call (Chg.of_below hB No)) (cell_keep hb (Chg.of_below hB No) hbx (fun e => e))
    have hpo : PredOver Tryz.prog 71 #[.pointer (some ⟨bx, 0, none⟩)] encS (notFree z) blk 0 (l.map toS).toArray.size w := fun k os dk x _ => hpred _ x (h.keep (sortWorld_chg w blk k dk os) (fun j hj e => hO.1 (by rw [← e]; exact hj))) (cell_keep hb (sortWorld_chg w blk k dk os) hbx (fun e => hO.2 e.symm))
    have hc := AnyE.slices_DeleteFunc layDelF encS (fun _ => rfl) (notFree z) 71 #[.pointer (some ⟨bx, 0, none⟩)] (enters_of Tryz.func71 (by kernel_rfl) rfl) default Tryz.zeroValue3 blk 0 cap (l.map toS).toArray w hp hpo hH (by rw [hd]; omega) (by rw [hd]; exact h1)
    change Calls Tryz.prog 70 _ _ _ at hc
    rw [hd] at hc
    refine hc.mono ?_
    rintro e w' ⟨rfl, q, rfl⟩
    have hfl : ((l.map toS).filter fun x => !notFree z x).map (·.1) = l.filter fun x => !notFree z (toS x) := by
      rw [List.filter_map, List.map_map]
      conv => rhs; rw [← List.map_id (l.filter fun x => !notFree z (toS x))]
      exact List.map_congr_left fun x hx => toS_val (hl x (List.mem_filter.1 hx).1)
    have hfn : ((l.map toS).filter fun x => !notFree z x).length = (l.filter fun x => !notFree z (toS x)).length := by rw [← hfl, List.length_map]
    have hle : (l.filter fun x => !notFree z (toS x)).length ≤ l.length := List.length_filter_le _ _
    have hp2 := ints_put (w := w) (q := q) (l.filter fun x => !notFree z (toS x)) (List.replicate (l.length - (l.filter fun x => !notFree z (toS x)).length) 0) hge hbk (by rw [List.length_replicate]; omega) h2 h3
    refine ⟨_, rfl, ?_, (putRow_chg _).mono fun j _ e => by rw [e]; rfl⟩
    rw [putRow_sub]
    have e2 : (((l.map toS).filter fun x => !notFree z x) ++ List.replicate (l.length - ((l.map toS).filter fun x => !notFree z x).length) default).toArray.map (fun y : SI => y.1) = ((l.filter fun x => !notFree z (toS x)) ++ List.replicate (l.length - (l.filter fun x => !notFree z (toS x)).length) 0).toArray := by
      rw [List.map_toArray, List.map_append, hfl, hfn, List.map_replicate]
      rfl
    have e3 := e2
    rw [show (fun y : SI => y.1) = (·.1) from rfl] at e3
    rw [e3, hfn]
    exact hp2

open Classical in
theorem filter_secs (z : CSt) : ((secs z.dirty).filter fun x => !notFree z (toS x)) = secs fun x => z.dirty x ∧ FreeE z.E x := by
  refine rising_one _ _ ((secs_up _).filter _) (secs_up _) fun x => ?_
  rw [List.mem_filter, secs_mem, secs_mem]
  have key : Sec x → ((!notFree z (toS x)) = true ↔ FreeE z.E x) := fun hs => by
    unfold notFree
    rw [toS_val ⟨by have := hs.1; omega, by have := hs.2; omega⟩]
    simp
  constructor
  · rintro ⟨⟨h1, h2⟩, h3⟩
    exact ⟨h1, h2, (key h1).1 h3⟩
  · rintro ⟨h1, h2, h3⟩
    exact ⟨⟨h1, h2⟩, (key h1).2 h3⟩
set_option maxRecDepth 100000 in
set_option maxHeartbeats 1000000 in
theorem elig_any (h : IsC w c p g n ρ z) : Calls Tryz.prog 23 #[.pointer (some ⟨c, 0, none⟩)] w fun e w' => ∃ v, e = .returned v ∧ Ints w' w.heap.size v (secs fun x => z.dirty x ∧ FreeE z.E x) ∧ Chg w w' No := by
  have hc1 : Chg w (w.alloc (.cells #[.pointer (some ⟨c, 0, none⟩)] 31)) No := Chg.alloc _ _ _
  have HD := dirty_any (h.call hc1)
  have HC := hid hc1
  have HH := hid h
  have hk : (w.alloc (.cells #[.pointer (some ⟨c, 0, none⟩)] 31)).cell? ⟨w.heap.size, 0, none⟩ = some (.pointer (some ⟨c, 0, none⟩)) := by rw [cell_of_row _ _ _ _ _ _ (heap_alloc_new _ _)]; rfl
  have HK := hid hk
  clear hc1 h
  go_enter Tryz.func23, Tryz.ntmps23
  go_wp2_with (first
    | (go_at_call 16; go_must (refine HD.mono ?_; rintro e w1 ⟨v, rfl, hI, hc2⟩; have HI := hid hI; have HC2 := hid hc2; have HDF := delf_ints (z := z) (ρ := ρ) (n := n) (p := p) (g := g) (c := c) w.heap.size _ v (secs z.dirty) (fun x hx => by obtain ⟨h1, h2⟩ := (secs_mem.1 hx).1; exact ⟨by omega, by omega⟩) (secs_len _) (HH.out.call (HC.out.tr hc2)) (cell_keep HK.out hc2 (by simp) (fun e => e)) (by have := hc2.size; simp at this; omega) hI (fun k hk => by have h1 := (row_ge hI hk).1; simp at h1; exact ⟨fun ho => by have := HH.out.lt ho; omega, by omega⟩); clear HD hI hc2))
    | (go_at_call 70; go_must (refine HDF.mono ?_; rintro e w3 ⟨v3, rfl, hI3, hc3⟩))
    | fail)
  go_ret
  rw [filter_secs z] at hI3
  refine ⟨_, rfl, row_base hI3 (by simp), (HC.out.tr HC2.out).trans hc3 (fun _ _ e => e) (fun j hj e => ?_)⟩
  have := (row_ge HI.out e).1
  simp at this
  omega

end Go.Proofs.YtlkmfhpnofpjdaaGreat

namespace Go.Proofs.YtlkmfhpnofpjdaaGreat
open Go.RowKit

/-- Edges that lie in memory. -/
def EdAt (w : World) (a : Option Addr) (l : List (Int × Int)) : Prop :=
  l = [] ∨ ∃ g, a = some ⟨g, 0, none⟩ ∧ g < w.heap.size ∧ ∀ k, k < l.length → w.cell? ⟨g, k * 2, none⟩ = some (.int .i64 (l.getD k (0, 0)).1) ∧ w.cell? ⟨g, k * 2 + 1, none⟩ = some (.int .i64 (l.getD k (0, 0)).2)
theorem EdAt.call {w w' : World} {a : Option Addr} {l : List (Int × Int)} (h : EdAt w a l) (hc : Chg w w' No) : EdAt w' a l := by
  rcases h with h | ⟨g, rfl, hg, h⟩
  · exact .inl h
  · exact .inr ⟨g, rfl, Nat.lt_of_lt_of_le hg hc.size, fun k hk => ⟨cell_keep (h k hk).1 hc hg (fun e => e), cell_keep (h k hk).2 hc hg (fun e => e)⟩⟩
theorem EdAt.keep {w w' : World} {a : Option Addr} {l : List (Int × Int)} {ks : Nat → Prop} (h : EdAt w a l) (hc : Chg w w' ks) (hn : ∀ g, a = some ⟨g, 0, none⟩ → ¬ ks g) : EdAt w' a l := by
  rcases h with h | ⟨g, rfl, hg, h⟩
  · exact .inl h
  · exact .inr ⟨g, rfl, Nat.lt_of_lt_of_le hg hc.size, fun k hk => ⟨cell_keep (h k hk).1 hc hg (hn g rfl), cell_keep (h k hk).2 hc hg (hn g rfl)⟩⟩
theorem Edgs.edat {w : World} {base : Nat} {v : Value} {l : List (Int × Int)} (h : Edgs w base v l) : ∃ a c, v = .slice a l.length c ∧ EdAt w a l ∧ ∀ g, a = some ⟨g, 0, none⟩ → base ≤ g := by
  rcases h.2 with ⟨rfl, h0⟩ | ⟨g, cap, cur, rfl, hge, hb, h1, h2, h3, h4⟩
  · have : l = [] := List.eq_nil_of_length_eq_zero h0
    subst this
    exact ⟨none, 0, rfl, .inl rfl, fun g e => by cases e⟩
  · have key : ∀ j u, (cellsE l)[j]? = some u → w.cell? ⟨g, j, none⟩ = some u := by
      intro j u hu
      have hj : j < l.length * 2 := by
        rcases Nat.lt_or_ge j (cellsE l).length with k | k
        · rw [cellsE_len] at k; exact k
        · rw [List.getElem?_eq_none k] at hu; cases hu
      rw [cell_of_row _ _ _ _ _ _ hb, ← Array.getElem?_toList]
      have e : (cur.toList.take (l.length * 2))[j]? = (cellsE l)[j]? := by rw [h4]
      rw [List.getElem?_take_of_lt hj] at e
      rw [e]
      exact hu
    refine ⟨_, cap, rfl, .inr ⟨g, rfl, slt hb, fun k hk => ?_⟩, fun g' e => by cases e; exact hge⟩
    have hg := cellsE_get l k
    rw [List.getElem?_eq_getElem hk] at hg
    have e : l.getD k (0, 0) = l[k] := by simp [hk]
    rw [e, Nat.mul_comm]
    exact ⟨key _ _ hg.1, key _ _ hg.2⟩

variable {n : Nat} {z : CSt}

theorem writeD_one {d : D.St8} {x : Int} {v : List Int} (h : D.writeE d n x = 0) : (D.writeD d n x v).wr = d.wr + 1 := by
  unfold D.writeE at h
  unfold D.writeD
  by_cases h0 : D.refE d n x = 0
  · rw [if_pos h0] at h
    rw [if_pos h0]
    by_cases h1 : d.ar = true ∧ d.lf = 0
    · rw [if_pos h1] at h
      exact absurd h (by decide)
    · rw [if_neg h1]
  · rw [if_neg h0] at h
    exact absurd h h0
theorem wrC_one (hi : CInv n z) {x : Int} (hx : z.dirty x) (h0 : (wrC n z x).2 = 0) : (wrC n z x).1.d.wr = z.d.wr + 1 := by
  obtain ⟨q, hq⟩ := Option.isSome_iff_exists.1 hx
  have hok := hi.ok x hx
  cases hlo : z.lost with
  | true =>
    have e : wrC n z x = (z, 22) := by unfold wrC; rw [if_pos hlo]
    rw [e] at h0
    exact absurd h0 (by simp)
  | false =>
    rcases writeE_cases z.d n x hok.1 hok.2 with he | he
    · rw [wrC_done hlo hq he]
      exact writeD_one he
    · rw [wrC_down hlo hq he] at h0
      exact absurd h0 (by simp)
open Classical in
/-- What was written, counted: all but those that are left. -/
theorem wAll_count : ∀ (k : Nat) (z : CSt) (l : List Int), CInv n z → l.length = k → l.Pairwise (· ≠ ·) → (∀ x, x ∈ l → z.dirty x) → (wAll n k z l).2 = 0 →
    ∃ r : List Int, (∀ x, x ∈ r → x ∈ l ∧ (wAll n k z l).1.dirty x) ∧ (wAll n k z l).1.d.wr + r.length = z.d.wr + l.length
  | 0, z, l, _, hl, _, _, _ => ⟨[], by simp, by rw [hl]; rfl⟩
  | k + 1, z, l, hi, hl, hnd, hdi, h0 => by
    unfold wAll at h0 ⊢
    cases hf : l.find? (fun x => decide (FreeE z.E x)) with
    | none =>
      rw [hf] at h0
      exact ⟨l, fun x hx => ⟨hx, hdi x hx⟩, rfl⟩
    | some x =>
      rw [hf] at h0
      simp only at h0 ⊢
      have hm : x ∈ l := List.mem_of_find?_eq_some hf
      by_cases h1 : (wrC n z x).2 = 0
      · rw [if_pos h1] at h0 ⊢
        have hle : (l.erase x).length = k := by rw [List.length_erase_of_mem hm]; omega
        obtain ⟨r, r1, r2⟩ := wAll_count k (wrC n z x).1 (l.erase x) (wrC_inv hi x) hle (hnd.sublist List.erase_sublist) (wrC_left hi hnd hdi hm h1) h0
        refine ⟨r, fun y hy => ⟨List.mem_of_mem_erase (r1 y hy).1, (r1 y hy).2⟩, ?_⟩
        rw [r2, wrC_one hi (hdi x hm) h1, hle, hl]
        omega
      · rw [if_neg h1] at h0
        exact absurd h0 h1
theorem wAll_exact {l : List Int} (hi : CInv n z) (ht : ToDo n z l) (h0 : (wAll n l.length z l).2 = 0) : (wAll n l.length z l).1.d.wr = z.d.wr + l.length := by
  obtain ⟨r, r1, r2⟩ := wAll_count l.length z l hi rfl ht.nd ht.di h0
  have hw := (wAll_wrote l.length l z rfl hi ht).ok h0
  have : r = [] := by
    cases r with
    | nil => rfl
    | cons a r =>
      have h1 := r1 a (by simp)
      exact absurd h1.1 ((hw.2 a).1 h1.2).2
  rw [this] at r2
  simpa using r2
/-- Those that are left, counted. -/
theorem secs_rest {p q : Int → Prop} {l : List Int} (hl : l.Pairwise (· ≠ ·)) (hs : ∀ x, x ∈ l → Sec x ∧ p x) (hq : ∀ y, q y ↔ p y ∧ y ∉ l) : (secs q).length + l.length = (secs p).length := by
  have hp : (secs q ++ l).Perm (secs p) := by
    refine (List.perm_ext_iff_of_nodup ?_ ?_).2 fun a => ?_
    · refine List.nodup_append.2 ⟨(secs_up q).imp fun {a b} e => by omega, hl, fun a ha b hb e => ?_⟩
      subst e
      exact ((hq a).1 (secs_mem.1 ha).2).2 hb
    · exact (secs_up p).imp fun {a b} e => by omega
    · rw [List.mem_append, secs_mem, secs_mem, hq]
      constructor
      · rintro (⟨h1, h2, _⟩ | h)
        · exact ⟨h1, h2⟩
        · exact hs a h
      · rintro ⟨h1, h2⟩
        by_cases h : a ∈ l
        · exact .inr h
        · exact .inl ⟨h1, h2, h⟩
  rw [← hp.length_eq, List.length_append]
theorem secs_empty {p : Int → Prop} (h : ∀ x, ¬ p x) : secs p = [] := by
  cases he : secs p with
  | nil => rfl
  | cons a r =>
    have : a ∈ secs p := by rw [he]; simp
    exact absurd (secs_mem.1 this).2 (h a)

theorem Reach.sec {E : Int → Int → Prop} (hs : InSec E) {a k : Int} (hk : Sec k) (h : Reach E a k) : Sec a := by
  rcases h with rfl | h
  · exact hk
  · cases h with
    | one h => exact (hs _ _ h).1
    | more h _ => exact (hs _ _ h).1
/-- All that must land ahead of a sector, and it. -/
theorem bef_len (hi : CInv n z) {k : Int} (hk : z.dirty k) : (secs fun a => Reach z.E a k).length = (befC z k).length + 1 := by
  have h := secs_rest (p := fun a => Reach z.E a k) (q := fun a => a ≠ k ∧ Reach z.E a k) (l := [k]) (by simp) (fun x hx => by
    rw [List.mem_singleton.1 hx]
    exact ⟨hi.sec hk, .inl rfl⟩) (fun y => by simp only [List.mem_singleton]; exact ⟨fun e => ⟨e.2, e.1⟩, fun e => ⟨e.2, e.1⟩⟩)
  unfold befC
  simp at h ⊢
  omega

/-- What is known of those that were found. -/
structure AInv (E : Int → Int → Prop) (k : Int) (L : List Int) : Prop where
  nd : L.Pairwise (· ≠ ·)
  me : k ∈ L
  re : ∀ a, a ∈ L → Reach E a k
theorem AInv.len {E : Int → Int → Prop} {k : Int} {L : List Int} (h : AInv E k L) (hs : InSec E) (hk : Sec k) : L.length ≤ 4096 :=
  Nat.le_trans (nodup_len L (secs Sec) h.nd fun x hx => secs_mem.2 ⟨(h.re x hx).sec hs hk, (h.re x hx).sec hs hk⟩) (secs_len _)
theorem AInv.more {E : Int → Int → Prop} {k a b : Int} {L : List Int} (h : AInv E k L) (hb : b ∈ L) (he : E a b) (hn : a ∉ L) : AInv E k (L ++ [a]) := by
  refine ⟨?_, List.mem_append_left _ h.me, fun x hx => ?_⟩
  · rw [List.pairwise_append]
    refine ⟨h.nd, by simp, fun x hx y hy e => ?_⟩
    rw [List.mem_singleton.1 hy] at e
    exact hn (e ▸ hx)
  · rcases List.mem_append.1 hx with e | e
    · exact h.re x e
    · rw [List.mem_singleton.1 e]
      exact Reach.step he (h.re b hb)
theorem AInv.all {E : Int → Int → Prop} {k : Int} {L : List Int} (h : AInv E k L) (hs : InSec E) (hk : Sec k) (hc : ∀ a b, b ∈ L → E a b → a ∈ L) : L.length = (secs fun a => Reach E a k).length := by
  have hp : L.Perm (secs fun a => Reach E a k) := by
    refine (List.perm_ext_iff_of_nodup h.nd ((secs_up _).imp fun {a b} e => by omega)).2 fun a => ?_
    rw [secs_mem]
    refine ⟨fun e => ⟨(h.re a e).sec hs hk, h.re a e⟩, fun e => ?_⟩
    have := (Reach.rev_iff (E := E) (a := k) (b := a)).2 e.2
    exact this.closed (S := fun x => x ∈ L) h.me (fun x y hx hy => hc y x hx hy)
  exact hp.length_eq
theorem take_mem {L : List Int} {j : Nat} (hj : j < L.length) {x : Int} : x ∈ L.take (j + 1) ↔ x ∈ L.take j ∨ L.getD j 0 = x := by
  rw [List.take_add_one, List.getElem?_eq_getElem hj, List.mem_append]
  have e : L.getD j 0 = L[j] := by simp [hj]
  rw [e]
  simp [eq_comm]
theorem gmem {L : List Int} {j : Nat} (hj : j < L.length) : L.getD j 0 ∈ L := by
  have e : L.getD j 0 = L[j] := by simp [hj]
  rw [e]
  exact List.getElem_mem hj
theorem getD_app {L M : List Int} {j : Nat} (hj : j < L.length) : (L ++ M).getD j 0 = L.getD j 0 := by
  rw [List.getD_eq_getElem?_getD, List.getElem?_append_left hj, ← List.getD_eq_getElem?_getD]

structure KB (b : Bool) (X : Prop) : Prop where
  go1 : b = true → X
  go2 : X → b = true
theorem elist_len2 {E : Int → Int → Prop} {l : List (Int × Int)} (h : EList E l) (hs : InSec E) : l.length ≤ 16777216 :=
  edges_len l (h.1.imp fun {a b} e k => by subst k; unfold ltE at e; omega) fun x hx => hs _ _ ((h.2 x).1 hx)

set_option maxRecDepth 100000 in
set_option maxHeartbeats 4000000 in
theorem ahead_any (k0 : Int) (E : Int → Int → Prop) (l : List (Int × Int)) (a : Option Addr) (ca : Nat) (w : World) (hE : EList E l) (hs : InSec E) (hk : Sec k0) (hA : EdAt w a l) :
    Calls Tryz.prog 21 #[.int .i64 k0, .slice a l.length ca] w fun e w' => e = .returned (.int .i64 ((secs fun x => Reach E x k0).length : Nat)) ∧ Chg w w' No := by
  have hlen := elist_len2 hE hs
  have HE := hid hE
  have HS := hid hs
  have HK := hid hk
  have HA := hid hA
  generalize hm : l.length = m at *
  have HM := hid hm
  clear hm hE hs hk hA
  go_enter Tryz.func21, Tryz.ntmps21
  go_wp2_with fail
  have HI0 := hid (ints_new w k0)
  have HC0 := hid (Chg.alloc w (.cells #[.int .i64 k0] 3) No)
  have hz0 : w.heap.size ≤ (w.alloc (.cells #[.int .i64 k0] 3)).heap.size := by simp
  go_loopw [5, 6] (fun v i wr => ∃ (j : Nat) (L : List Int) (wq : World), wq = wr ∧ i = .int .i64 j ∧ j ≤ L.length ∧ L.length ≤ 4096 ∧ Hid (AInv E k0 L) ∧ Hid (∀ a b, b ∈ L.take j → E a b → a ∈ L) ∧ Hid (Ints wq w.heap.size v L) ∧ Hid (Chg w wq No)) (fun _ i _ => 4097 - (intOf i).toNat)
  case atStart => exact ⟨0, [k0], _, rfl, rfl, by simp, by simp, ⟨by simp, by simp, fun a ha => .inl (List.mem_singleton.1 ha)⟩, fun a b hb => by simp at hb, HI0, HC0⟩
  case round =>
    clear HI0 HC0 hz0
    obtain ⟨j, L, wq, rfl, rfl, hj, hL, HAI, HD, HI, HC⟩ := hrel
    obtain ⟨va, vc, rfl, hLA, hLb⟩ := HI.out.lat
    by_cases hlt : j < L.length
    · have hji : (j : Int) < (L.length : Int) := by omega
      obtain ⟨gL, rfl, hgL, hcL⟩ : ∃ gL, va = some ⟨gL, 0, none⟩ ∧ gL < wq.heap.size ∧ ∀ k, k < L.length → wq.cell? ⟨gL, k, none⟩ = some (.int .i64 (L.getD k 0)) := by
        rcases hLA with h | h
        · rw [h] at hlt; simp at hlt
        · exact h
      clear hLA hLb hgL hcL
      go_wp2_with fail
      go_loopw [5, 7, 8, 9] (fun v i _ _ wr => ∃ (k : Nat) (L : List Int) (wq : World), wq = wr ∧ i = .int .i64 k ∧ k ≤ m ∧ j < L.length ∧ L.length ≤ 4096 ∧ Hid (AInv E k0 L) ∧ Hid (∀ a b, b ∈ L.take j → E a b → a ∈ L) ∧ Hid (∀ q, q < k → (l.getD q (0, 0)).2 = L.getD j 0 → (l.getD q (0, 0)).1 ∈ L) ∧ Hid (Ints wq w.heap.size v L) ∧ Hid (Chg w wq No)) (fun _ i _ _ _ => m - (intOf i).toNat)
      case atStart => exact ⟨0, L, _, rfl, rfl, by omega, hlt, hL, HAI, HD, fun q hq => absurd hq (Nat.not_lt_zero q), HI, HC⟩
      case round =>
        clear HAI HD HI HC hlt hj hji hL
        obtain ⟨k, L, wq, rfl, rfl, hk, hlt, hL, HAI, HD, HQ, HI, HC⟩ := hrel
        obtain ⟨va, vc, rfl, hLA, hLb⟩ := HI.out.lat
        obtain ⟨gL, rfl, hgL, hcL⟩ : ∃ gL, va = some ⟨gL, 0, none⟩ ∧ gL < wq.heap.size ∧ ∀ k, k < L.length → wq.cell? ⟨gL, k, none⟩ = some (.int .i64 (L.getD k 0)) := by
          rcases hLA with h | h
          · rw [h] at hlt; simp at hlt
          · exact h
        have HcL := hid hcL
        clear hLA hLb
        by_cases hkm : k < m
        · have hki : (k : Int) < (m : Int) := by omega
          obtain ⟨ge, rfl, hge, hce⟩ : ∃ ge, a = some ⟨ge, 0, none⟩ ∧ ge < wq.heap.size ∧ ∀ k, k < l.length → wq.cell? ⟨ge, k * 2, none⟩ = some (.int .i64 (l.getD k (0, 0)).1) ∧ wq.cell? ⟨ge, k * 2 + 1, none⟩ = some (.int .i64 (l.getD k (0, 0)).2) := by
            rcases HA.out.call HC.out with h | h
            · have := HM.out; rw [h] at this; simp at this; omega
            · exact h
          have hc1 := (hce k (by rw [HM.out]; exact hkm)).1
          have hc2 := (hce k (by rw [HM.out]; exact hkm)).2
          have hcj := hcL j hlt
          have HEk : Hid (E (l.getD k (0, 0)).1 (l.getD k (0, 0)).2) := by
            refine (HE.out.2 _).1 ?_
            have hk' : k < l.length := by rw [HM.out]; exact hkm
            have e : l.getD k (0, 0) = l[k] := by simp [hk']
            rw [e]
            exact List.getElem_mem hk'
          generalize hxx : (l.getD k (0, 0)).1 = ex at *
          generalize hyy : (l.getD k (0, 0)).2 = ey at *
          generalize hLj : L.getD j 0 = Lj at *
          have HX := hid (And.intro hxx (And.intro hyy hLj))
          have hji : (j : Int) < (L.length : Int) := by omega
          clear hce hcL hxx hyy hLj hgL hge
          go_wp2_with fail
          go_quiet (fail)
          have hcd := chg_drewN wq nq
          have HI2 := hid (row_keep HI.out hcd (fun _ _ e => e))
          have HC2 := hid (HC.out.tr hcd)
          generalize hwd : wq.drewN nq = wd at *
          have HcL2 : Hid (∀ k, k < L.length → wd.cell? ⟨gL, k, none⟩ = some (.int .i64 (L.getD k 0))) := fun q hq => by rw [← hwd]; exact HcL.out q hq
          clear hcd hwd HI HC HcL hcj hc1 hc2
          go_wp2_with fail
          go_loopw [8, 9] (fun kn i wr => ∃ (q : Nat) (b : Bool) (we : World), we = wr ∧ i = .int .i64 q ∧ q ≤ L.length ∧ kn = .bool b ∧ Hid (KB b (ey ≠ Lj ∨ ex ∈ L.take q)) ∧ Hid (Ints we w.heap.size (.slice (some ⟨gL, 0, none⟩) L.length vc) L) ∧ Hid (Chg w we No) ∧ Hid (∀ k, k < L.length → we.cell? ⟨gL, k, none⟩ = some (.int .i64 (L.getD k 0)))) (fun _ i _ => L.length - (intOf i).toNat)
          case atStart => exact ⟨0, _, _, rfl, rfl, by omega, rfl, hid ⟨fun h => .inl (by simpa using h), fun h => by simpa using h⟩, HI2, HC2, HcL2⟩
          case round =>
            clear HI2 HC2 HcL2
            obtain ⟨q, b, we, rfl, rfl, hq, rfl, HB, HI, HC, HcL⟩ := hrel
            by_cases hql : q < L.length
            · have hqi : (q : Int) < (L.length : Int) := by omega
              have hcq := HcL.out q hql
              have HTM := hid (@take_mem L q hql ex)
              generalize hLq : L.getD q 0 = Lq at *
              cases b
              · obtain ⟨ge2, hae, hge2, hce2⟩ : ∃ ge2, (some ⟨ge, 0, none⟩ : Option Addr) = some ⟨ge2, 0, none⟩ ∧ ge2 < we.heap.size ∧ ∀ k, k < l.length → we.cell? ⟨ge2, k * 2, none⟩ = some (.int .i64 (l.getD k (0, 0)).1) ∧ we.cell? ⟨ge2, k * 2 + 1, none⟩ = some (.int .i64 (l.getD k (0, 0)).2) := by
                  rcases HA.out.call HC.out with h | h
                  · have := HM.out; rw [h] at this; simp at this; omega
                  · exact h
                cases hae
                have hc1 := (hce2 k (by rw [HM.out]; exact hkm)).1
                rw [HX.out.1] at hc1
                clear hce2 hge2
                have hB0 : ¬ (ey ≠ Lj ∨ ex ∈ L.take q) := fun h => by have := HB.out.go2 h; cases this
                by_cases hqe : Lq = ex
                · have hqb : (Lq == ex) = true := by simp [hqe]
                  have HB2 : Hid (KB true (ey ≠ Lj ∨ ex ∈ L.take (q + 1))) := ⟨fun _ => .inr (HTM.out.2 (.inr (hLq ▸ hqe))), fun _ => rfl⟩
                  clear hB0 HB hqe hLq HTM
                  go_wp2_with fail
                  go_quiet (fail)
                  go_wp2_with fail
                  exact ⟨⟨q + 1, true, _, rfl, by go_num, by omega, rfl, HB2, hid (row_keep HI.out (chg_drewN we _) (fun _ _ e => e)), hid (HC.out.tr (chg_drewN we _)), fun k hk => HcL.out k hk⟩, by simp [intOf]; omega⟩
                · have hqb : (Lq == ex) = false := by simp [hqe]
                  have HB2 : Hid (KB false (ey ≠ Lj ∨ ex ∈ L.take (q + 1))) := ⟨fun e => Bool.noConfusion e, fun h => by
                    rcases h with h | h
                    · exact absurd (.inl h) hB0
                    · rcases HTM.out.1 h with h | h
                      · exact absurd (.inr h) hB0
                      · exact absurd (hLq ▸ h) hqe⟩
                  clear hB0 HB hqe hLq HTM
                  go_wp2_with fail
                  go_quiet (fail)
                  go_wp2_with fail
                  exact ⟨⟨q + 1, false, _, rfl, by go_num, by omega, rfl, HB2, hid (row_keep HI.out (chg_drewN we _) (fun _ _ e => e)), hid (HC.out.tr (chg_drewN we _)), fun k hk => HcL.out k hk⟩, by simp [intOf]; omega⟩
              · have HB2 : Hid (KB true (ey ≠ Lj ∨ ex ∈ L.take (q + 1))) := ⟨fun _ => by
                  rcases HB.out.go1 rfl with h | h
                  · exact .inl h
                  · exact .inr (HTM.out.2 (.inl h)), fun _ => rfl⟩
                clear HB hLq HTM
                go_wp2_with fail
                go_quiet (fail)
                go_wp2_with fail
                exact ⟨⟨q + 1, true, _, rfl, by go_num, by omega, rfl, HB2, hid (row_keep HI.out (chg_drewN we _) (fun _ _ e => e)), hid (HC.out.tr (chg_drewN we _)), fun k hk => HcL.out k hk⟩, by simp [intOf]; omega⟩
            · have eq : q = L.length := by omega
              subst eq
              rw [List.take_length] at HB
              have HmL := hid (@gmem L j hlt)
              clear hq hql
              cases b
              · have hB0 : ¬ (ey ≠ Lj ∨ ex ∈ L) := fun h => by have := HB.out.go2 h; cases this
                obtain ⟨ge2, hae, hge2, hce2⟩ : ∃ ge2, (some ⟨ge, 0, none⟩ : Option Addr) = some ⟨ge2, 0, none⟩ ∧ ge2 < we.heap.size ∧ ∀ k, k < l.length → we.cell? ⟨ge2, k * 2, none⟩ = some (.int .i64 (l.getD k (0, 0)).1) ∧ we.cell? ⟨ge2, k * 2 + 1, none⟩ = some (.int .i64 (l.getD k (0, 0)).2) := by
                  rcases HA.out.call HC.out with h | h
                  · have := HM.out; rw [h] at this; simp at this; omega
                  · exact h
                cases hae
                have hc1 := (hce2 k (by rw [HM.out]; exact hkm)).1
                rw [HX.out.1] at hc1
                have heq : ey = Lj := Classical.byContradiction fun h => hB0 (.inl h)
                have hnin : ex ∉ L := fun h => hB0 (.inr h)
                have hA2 := HAI.out.more (a := ex) (b := Lj) (by rw [← HX.out.2.2]; exact HmL.out) (by rw [← heq]; exact HEk.out) hnin
                have HA2 := hid hA2
                have hL2 := hA2.len HS.out HK.out
                have HD2 : Hid (∀ a b, b ∈ (L ++ [ex]).take j → E a b → a ∈ L ++ [ex]) := fun a b hb he => by
                  rw [List.take_append_of_le_length (by omega)] at hb
                  exact List.mem_append_left _ (HD.out a b hb he)
                have HQ2 : Hid (∀ q, q < k + 1 → (l.getD q (0, 0)).2 = (L ++ [ex]).getD j 0 → (l.getD q (0, 0)).1 ∈ L ++ [ex]) := fun q hq he => by
                  rw [getD_app hlt, HX.out.2.2] at he
                  by_cases e : q = k
                  · rw [e, HX.out.1]; simp
                  · exact List.mem_append_left _ (HQ.out q (by omega) he)
                have HI4 := hid (row_keep HI.out (Chg.alloc we (.cells #[.int .i64 ex] 3) No) (fun _ _ e => e))
                have hcell := cell0 (heap_alloc_new we (.cells #[.int .i64 ex] 3))
                have hbz : w.heap.size ≤ we.heap.size := HC.out.size
                clear hB0 heq hnin hA2 hce2 hge2 HAI HD HQ HB
                go_wp2_with (first
                  | (at_builtin; go_must (refine wp_appI rfl _ _ rfl w.heap.size we.heap.size 1 _ L ex rfl rfl HI4.out hcell (by omega) (by simp; omega) ?_; intro v5 w5 h51 h52 h53))
                  | go_in)
                have HC5 : Chg w w5 No := (HC.out.tr (Chg.alloc we (.cells #[.int .i64 ex] 3) No)).trans h52 (fun _ _ e => e) (fun j hj e => by have := (row_ge HI4.out e).1; omega)
                go_roundw
                case rel => exact ⟨k + 1, L ++ [ex], w5, rfl, by go_num, by omega, by simp; omega, hL2, HA2, HD2, HQ2, hid h51, hid HC5⟩
                case measure => simp [intOf]; omega
              · have HQ2 : Hid (∀ q, q < k + 1 → (l.getD q (0, 0)).2 = L.getD j 0 → (l.getD q (0, 0)).1 ∈ L) := fun q hq he => by
                  by_cases e : q = k
                  · subst e
                    rw [HX.out.1]
                    rw [HX.out.2.1, HX.out.2.2] at he
                    rcases HB.out.go1 rfl with h | h
                    · exact absurd he h
                    · exact h
                  · exact HQ.out q (by omega) (he.trans HX.out.2.2)
                clear HB HQ
                go_wp2_with fail
                go_roundw
                case rel => exact ⟨k + 1, L, we, rfl, by go_num, by omega, hlt, hL, HAI, HD, HQ2, HI, HC⟩
                case measure => simp [intOf]; omega
        · have ek : k = m := by omega
          have HD2 : Hid (∀ a b, b ∈ L.take (j + 1) → E a b → a ∈ L) := fun a b hb he => by
            rcases (take_mem hlt).1 hb with h | h
            · exact HD.out a b h he
            · obtain ⟨q, hq, e⟩ := List.mem_iff_getElem.1 ((HE.out.2 (a, b)).2 he)
              have e2 : l.getD q (0, 0) = (a, b) := by simp [hq, e]
              have := HQ.out q (by rw [ek, ← HM.out]; exact hq) (by rw [e2]; exact h.symm)
              rw [e2] at this
              exact this
          clear hk HQ HD HcL hcL hgL ek
          go_wp2_with fail
          go_roundw
          case rel => exact ⟨j + 1, L, wq, rfl, by go_num, by omega, hL, HAI, HD2, HI, HC⟩
          case measure => simp [intOf]; omega
    · have ej : j = L.length := by omega
      subst ej
      rw [List.take_length] at HD
      have HN := hid (HAI.out.all HS.out HK.out (fun a b hb he => HD.out a b hb he))
      clear hLA hLb hj hlt
      go_wp2_with fail
      go_ret
      exact ⟨by rw [← HN.out]; rfl, HC.out⟩

end Go.Proofs.YtlkmfhpnofpjdaaGreat

namespace Go.Proofs.YtlkmfhpnofpjdaaGreat

/-- How many indexes below m have it. -/
def cntR (m : Nat) (f : Nat → Bool) : Nat := ((List.range m).filter f).length
theorem cntR_succ (m : Nat) (f : Nat → Bool) : cntR (m + 1) f = cntR m f + (if f m = true then 1 else 0) := by
  unfold cntR
  rw [List.range_succ, List.filter_append, List.length_append]
  cases h : f m <;> simp [h]
theorem cntR_congr {m : Nat} {f g : Nat → Bool} (h : ∀ q, q < m → f q = g q) : cntR m f = cntR m g := by
  unfold cntR
  congr 1
  exact List.filter_congr fun q hq => h q (List.mem_range.1 hq)
theorem cntR_le (m : Nat) (f : Nat → Bool) : cntR m f ≤ m := by
  unfold cntR
  exact Nat.le_trans (List.length_filter_le _ _) (by simp)
theorem cntR_zero {m : Nat} {f : Nat → Bool} : cntR m f = 0 ↔ ∀ q, q < m → f q = false := by
  unfold cntR
  rw [List.length_eq_zero_iff, List.filter_eq_nil_iff]
  constructor
  · intro h q hq
    have := h q (List.mem_range.2 hq)
    simpa using this
  · intro h q hq
    rw [h q (List.mem_range.1 hq)]
    simp
theorem cntR_drop : ∀ {m : Nat} {f g : Nat → Bool} {k : Nat}, k < m → f k = true → g k = false → (∀ q, q < m → q ≠ k → g q = f q) → cntR m g + 1 = cntR m f
  | 0, _, _, _, hk, _, _, _ => absurd hk (Nat.not_lt_zero _)
  | m + 1, f, g, k, hk, h1, h2, h3 => by
    rw [cntR_succ, cntR_succ]
    by_cases e : k = m
    · subst e
      rw [h1, h2, cntR_congr (f := g) (g := f) fun q hq => h3 q (by omega) (by omega)]
      simp
    · have ih := cntR_drop (m := m) (f := f) (g := g) (k := k) (by omega) h1 h2 fun q hq hn => h3 q (by omega) hn
      rw [h3 m (by omega) (fun h => e h.symm)]
      omega

/-- The edge at a place. -/
def edA (l : List (Int × Int)) (q : Nat) : Int × Int := l.getD q (0, 0)
theorem edA_mem {l : List (Int × Int)} {q : Nat} (h : q < l.length) : edA l q ∈ l := by
  unfold edA
  have e : l.getD q (0, 0) = l[q] := by simp [h]
  rw [e]
  exact List.getElem_mem h
theorem edA_ex {l : List (Int × Int)} {x : Int × Int} (h : x ∈ l) : ∃ q, q < l.length ∧ edA l q = x := by
  obtain ⟨q, hq, e⟩ := List.mem_iff_getElem.1 h
  exact ⟨q, hq, by unfold edA; simp [hq, e]⟩

/-- Which edges still count, when those ahead of place i of the row have been taken away, and of place i's those ahead of k. -/
def aliveB (l : List (Int × Int)) (R : List Int) (i k : Nat) (x : Int) (q : Nat) : Bool :=
  decide ((edA l q).2 = x) && !(R.take i).contains (edA l q).1 && !(decide ((edA l q).1 = R.getD i 0) && decide (q < k))

/-- What is known of the row between two steps. -/
structure RInv (z : CSt) (l : List (Int × Int)) (R : List Int) (i k : Nat) : Prop where
  nd : R.Pairwise (· ≠ ·)
  di : ∀ x, x ∈ R → z.dirty x
  me : ∀ x, x ∈ R ↔ z.dirty x ∧ cntR l.length (aliveB l R i k x) = 0

variable {z : CSt} {l : List (Int × Int)} {R : List Int} {n : Nat}

theorem take_app {R : List Int} {x : Int} {i : Nat} (h : i ≤ R.length) : (R ++ [x]).take i = R.take i := List.take_append_of_le_length h
theorem alive_app {x y : Int} {i k q : Nat} (h : i < R.length) : aliveB l (R ++ [x]) i k y q = aliveB l R i k y q := by
  unfold aliveB
  rw [take_app (by omega), List.getD_eq_getElem?_getD, List.getElem?_append_left h, ← List.getD_eq_getElem?_getD]
/-- One edge that does not count. -/
theorem alive_skip {x : Int} {i k : Nat} (h : ¬ (edA l k).1 = R.getD i 0) : ∀ q, aliveB l R i (k + 1) x q = aliveB l R i k x q := by
  intro q
  unfold aliveB
  by_cases e : (edA l q).1 = R.getD i 0
  · have : q ≠ k := fun h2 => h (h2 ▸ e)
    rw [decide_eq_true e]
    have : decide (q < k + 1) = decide (q < k) := by
      by_cases h3 : q < k
      · rw [decide_eq_true h3, decide_eq_true (by omega)]
      · rw [decide_eq_false h3, decide_eq_false (by omega)]
    rw [this]
  · rw [decide_eq_false e]
    simp
theorem take_nd {i : Nat} (hnd : R.Pairwise (· ≠ ·)) (hi : i < R.length) : R.getD i 0 ∉ R.take i := by
  intro h
  obtain ⟨j, hj, e⟩ := List.mem_iff_getElem.1 h
  rw [List.length_take] at hj
  rw [List.getElem_take] at e
  have e2 : R.getD i 0 = R[i] := by simp [hi]
  rw [e2] at e
  exact List.pairwise_iff_getElem.1 hnd j i (by omega) hi (by omega) e
/-- One edge is taken away. -/
theorem alive_drop {x : Int} {i k : Nat} (hnd : R.Pairwise (· ≠ ·)) (hi : i < R.length) (hk : k < l.length) (h : (edA l k).1 = R.getD i 0) :
    cntR l.length (aliveB l R i (k + 1) x) + (if (edA l k).2 = x then 1 else 0) = cntR l.length (aliveB l R i k x) := by
  have hn : (R.take i).contains (edA l k).1 = false := by
    cases hq : (R.take i).contains (edA l k).1 with
    | false => rfl
    | true =>
      rw [List.contains_iff_mem, h] at hq
      exact absurd hq (take_nd hnd hi)
  have hother : ∀ q, q ≠ k → aliveB l R i (k + 1) x q = aliveB l R i k x q := by
    intro q hq
    unfold aliveB
    have : decide (q < k + 1) = decide (q < k) := by
      by_cases h3 : q < k
      · rw [decide_eq_true h3, decide_eq_true (by omega)]
      · rw [decide_eq_false h3, decide_eq_false (by omega)]
    rw [this]
  by_cases e : (edA l k).2 = x
  · rw [if_pos e]
    refine cntR_drop hk ?_ ?_ (fun q _ hq => hother q hq)
    · unfold aliveB
      rw [decide_eq_true e, hn, decide_eq_true h, decide_eq_false (Nat.lt_irrefl k)]
      rfl
    · unfold aliveB
      rw [decide_eq_true h, decide_eq_true (Nat.lt_succ_self k)]
      simp
  · rw [if_neg e, Nat.add_zero]
    refine cntR_congr fun q _ => ?_
    by_cases hq : q = k
    · subst hq
      unfold aliveB
      rw [decide_eq_false e]
      rfl
    · exact hother q hq
/-- One place of the row is through. -/
theorem alive_next {x : Int} {i : Nat} (hi : i < R.length) : ∀ q, q < l.length → aliveB l R (i + 1) 0 x q = aliveB l R i l.length x q := by
  intro q hq
  unfold aliveB
  rw [decide_eq_true hq, Bool.and_true, decide_eq_false (Nat.not_lt_zero q), Bool.and_false, Bool.not_false, Bool.and_true]
  have e2 : R.getD i 0 = R[i] := by simp [hi]
  have : (R.take (i + 1)).contains (edA l q).1 = ((R.take i).contains (edA l q).1 || decide ((edA l q).1 = R.getD i 0)) := by
    rw [Bool.eq_iff_iff, List.contains_iff_mem, Bool.or_eq_true, List.contains_iff_mem, decide_eq_true_iff, e2, List.take_add_one, List.getElem?_eq_getElem hi, List.mem_append]
    simp
  rw [this]
  cases (R.take i).contains (edA l q).1 <;> cases decide ((edA l q).1 = R.getD i 0) <;> simp
theorem RInv.next {i : Nat} (h : RInv z l R i l.length) (hi : i < R.length) : RInv z l R (i + 1) 0 :=
  ⟨h.nd, h.di, fun x => by rw [h.me, cntR_congr (alive_next (x := x) hi)]⟩
theorem RInv.skip {i k : Nat} (h : RInv z l R i k) (he : ¬ (edA l k).1 = R.getD i 0) : RInv z l R i (k + 1) :=
  ⟨h.nd, h.di, fun x => by rw [h.me, cntR_congr fun q _ => alive_skip (x := x) he q]⟩
/-- An edge is taken away, and one more leads to its end. -/
theorem RInv.drop {i k : Nat} (h : RInv z l R i k) (hi : i < R.length) (hk : k < l.length) (he : (edA l k).1 = R.getD i 0) (h0 : ¬ cntR l.length (aliveB l R i (k + 1) (edA l k).2) = 0) : RInv z l R i (k + 1) := by
  refine ⟨h.nd, h.di, fun x => ?_⟩
  have hd := alive_drop (x := x) h.nd hi hk he
  rw [h.me]
  by_cases e : (edA l k).2 = x
  · rw [if_pos e] at hd
    rw [e] at h0
    constructor
    · rintro ⟨_, h2⟩; omega
    · rintro ⟨_, h2⟩; exact absurd h2 h0
  · rw [if_neg e] at hd
    rw [← hd]
    rfl
/-- .. and none leads to its end any more. -/
theorem RInv.free {i k : Nat} (h : RInv z l R i k) (hi : i < R.length) (hk : k < l.length) (he : (edA l k).1 = R.getD i 0) (hdi : z.dirty (edA l k).2) (h0 : cntR l.length (aliveB l R i (k + 1) (edA l k).2) = 0) : RInv z l (R ++ [(edA l k).2]) i (k + 1) := by
  have hd0 := alive_drop (x := (edA l k).2) h.nd hi hk he
  rw [if_pos rfl] at hd0
  have hn : (edA l k).2 ∉ R := fun hm => by
    have := ((h.me _).1 hm).2
    omega
  refine ⟨?_, fun x hx => ?_, fun x => ?_⟩
  · rw [List.pairwise_append]
    refine ⟨h.nd, by simp, fun a ha b hb e => ?_⟩
    rw [List.mem_singleton.1 hb] at e
    exact hn (e ▸ ha)
  · rcases List.mem_append.1 hx with e | e
    · exact h.di x e
    · rw [List.mem_singleton.1 e]; exact hdi
  · have hd := alive_drop (x := x) h.nd hi hk he
    have hap : cntR l.length (aliveB l (R ++ [(edA l k).2]) i (k + 1) x) = cntR l.length (aliveB l R i (k + 1) x) := cntR_congr fun q _ => alive_app hi
    rw [hap, List.mem_append, List.mem_singleton, h.me]
    by_cases e : (edA l k).2 = x
    · subst e
      exact ⟨fun _ => ⟨hdi, h0⟩, fun _ => .inr rfl⟩
    · rw [if_neg e] at hd
      constructor
      · rintro (k1 | k1)
        · exact ⟨k1.1, by have := k1.2; omega⟩
        · exact absurd k1.symm e
      · rintro ⟨k1, k2⟩
        exact .inl ⟨k1, by omega⟩

/-- When the row is through all are in it. -/
theorem RInv.all (hi : CInv n z) (hE : ∀ x, x ∈ l ↔ z.E x.1 x.2) (h : RInv z l R R.length 0) : R.length = (secs z.dirty).length := by
  have hm : ∀ x, x ∈ R ↔ z.dirty x := by
    intro x
    refine ⟨h.di x, fun hx => Classical.byContradiction fun hn => ?_⟩
    -- those that are left
    let S : Int → Prop := fun y => z.dirty y ∧ y ∉ R
    have hpre : ∀ y, S y → ∃ a, z.E a y ∧ S a := by
      rintro y ⟨hy, hyn⟩
      have h1 : ¬ cntR l.length (aliveB l R R.length 0 y) = 0 := fun e => hyn ((h.me y).2 ⟨hy, e⟩)
      rw [cntR_zero] at h1
      have ⟨q, h2⟩ := Classical.not_forall.1 h1
      have ⟨hq, h3⟩ := Classical.not_imp.1 h2
      have h4 : aliveB l R R.length 0 y q = true := by
        cases hb : aliveB l R R.length 0 y q with
        | true => rfl
        | false => exact absurd hb h3
      unfold aliveB at h4
      rw [List.take_length] at h4
      simp at h4
      have he := (hE _).1 (edA_mem hq)
      rw [h4.1] at he
      exact ⟨(edA l q).1, he, (hi.ed _ _ he).1, h4.2⟩
    let F : Int → Int → Prop := fun a b => z.E a b ∧ S a ∧ S b
    have hF : NoRing F := fun a hw => hi.ring a (hw.mono fun a b e => e.1)
    obtain ⟨c, hc, hcn⟩ := free_before hF 4096 x (few_sec.mono fun y hy => by
      have : z.E y x ∨ True := .inr trivial
      have hs : S y := by
        cases hy with
        | one e => exact e.2.1
        | more e _ => exact e.2.1
      exact hi.sec hs.1)
    have hcS : S c := by
      rcases hc with rfl | hw
      · exact ⟨hx, hn⟩
      · cases hw with
        | one e => exact e.2.1
        | more e _ => exact e.2.1
    obtain ⟨a, ha, haS⟩ := hpre c hcS
    exact hcn a ⟨ha, haS, hcS⟩
  have hp : R.Perm (secs z.dirty) := by
    refine (List.perm_ext_iff_of_nodup h.nd ((secs_up _).imp fun {a b} e => by omega)).2 fun a => ?_
    rw [hm, secs_mem]
    exact ⟨fun e => ⟨hi.sec e, e⟩, fun e => e.2⟩
  exact hp.length_eq

end Go.Proofs.YtlkmfhpnofpjdaaGreat

namespace Go.Proofs.YtlkmfhpnofpjdaaGreat
open Go.RowKit

theorem cellI {w : World} {g : Nat} {Q : List Int} (h : w.heap[g]? = some (.cells (IA Q) 3 (0, 0))) {x : Nat} (hx : x < Q.length) : w.cell? ⟨g, x, none⟩ = some (.int .i64 (Q.getD x 0)) := by
  rw [cell_of_row _ _ _ _ _ _ h]
  exact IA_get Q hx
theorem cellB {w : World} {g : Nat} {B : List Bool} (h : w.heap[g]? = some (.cells (BA B) 4 (0, 0))) {x : Nat} (hx : x < B.length) : w.cell? ⟨g, x, none⟩ = some (.bool (B.getD x false)) := by
  rw [cell_of_row _ _ _ _ _ _ h]
  exact BA_get B hx
theorem set_getD {α : Type} {L : List α} {d v : α} {x y : Nat} (hx : x < L.length) : (L.set x v).getD y d = if y = x then v else L.getD y d := by
  rw [List.getD_eq_getElem?_getD, List.getElem?_set]
  by_cases e : x = y
  · subst e; rw [if_pos rfl, if_pos rfl, if_pos hx]; rfl
  · rw [if_neg e, if_neg (fun h => e h.symm), List.getD_eq_getElem?_getD]
/-- The flags of those of a list. -/
structure Fl (n : Nat) (B : List Bool) (L : List Int) : Prop where
  ln : B.length = n
  at_ : ∀ x : Nat, x < n → (B.getD x false = true ↔ (x : Int) ∈ L)
theorem Fl.more {n : Nat} {B : List Bool} {D : List Int} {k X : Nat} (h : Fl n B (D.take k)) (hk : k < D.length) (hX : D.getD k 0 = (X : Int)) (hXn : X < n) : Fl n (B.set X true) (D.take (k + 1)) := by
  refine ⟨by rw [List.length_set]; exact h.ln, fun x hx => ?_⟩
  rw [set_getD (by rw [h.ln]; exact hXn), take_mem hk, hX]
  by_cases e : x = X
  · subst e; simp
  · rw [if_neg e, h.at_ x hx]
    constructor
    · exact .inl
    · rintro (k | k)
      · exact k
      · exact absurd (by omega) e
/-- How many of the edges ahead of place k lead to each. -/
def indB (l : List (Int × Int)) (x : Int) (q : Nat) : Bool := decide ((edA l q).2 = x)
structure Led (n : Nat) (Q : List Int) (l : List (Int × Int)) (k : Nat) : Prop where
  ln : Q.length = n
  at_ : ∀ x : Nat, x < n → Q.getD x 0 = (cntR k (indB l (x : Int)) : Nat)
theorem Led.more {n : Nat} {Q : List Int} {l : List (Int × Int)} {k X : Nat} (h : Led n Q l k) (hX : (edA l k).2 = (X : Int)) (hXn : X < n) : Led n (Q.set X (Q.getD X 0 + 1)) l (k + 1) := by
  refine ⟨by rw [List.length_set]; exact h.ln, fun x hx => ?_⟩
  rw [set_getD (by rw [h.ln]; exact hXn), cntR_succ]
  by_cases e : x = X
  · subst e
    rw [if_pos rfl, h.at_ x hx]
    have : indB l (x : Int) k = true := by unfold indB; rw [hX]; simp
    rw [this]
    simp
  · rw [if_neg e, h.at_ x hx]
    have : indB l (x : Int) k = false := by unfold indB; rw [hX]; simp; omega
    rw [this]
    simp

theorem cell_lt2 {w : World} {b o : Nat} {v : Value} (h : w.cell? ⟨b, o, none⟩ = some v) : b < w.heap.size := by
  rcases Nat.lt_or_ge b w.heap.size with k | k
  · exact k
  · exfalso
    have e : w.heap[b]? = none := Array.getElem?_eq_none k
    simp [World.cell?, e] at h
/-- Of each sector a number. -/
structure LedF (n : Nat) (Q : List Int) (f : Int → Nat) : Prop where
  ln : Q.length = n
  at_ : ∀ x : Nat, x < n → Q.getD x 0 = (f (x : Int) : Nat)
theorem LedF.congr {n : Nat} {Q : List Int} {f g : Int → Nat} (h : LedF n Q f) (e : ∀ x, g x = f x) : LedF n Q g := ⟨h.ln, fun x hx => by rw [e]; exact h.at_ x hx⟩
theorem LedF.drop {n : Nat} {Q : List Int} {l : List (Int × Int)} {R : List Int} {i k Y : Nat} (h : LedF n Q fun x => cntR l.length (aliveB l R i k x)) (hnd : R.Pairwise (· ≠ ·)) (hi : i < R.length) (hk : k < l.length) (he : (edA l k).1 = R.getD i 0) (hY : (edA l k).2 = (Y : Int)) (hYn : Y < n) :
    LedF n (Q.set Y (Q.getD Y 0 - 1)) fun x => cntR l.length (aliveB l R i (k + 1) x) := by
  refine ⟨by rw [List.length_set]; exact h.ln, fun x hx => ?_⟩
  have hd := alive_drop (x := (x : Int)) hnd hi hk he
  rw [set_getD (by rw [h.ln]; exact hYn)]
  by_cases e : x = Y
  · subst e
    rw [if_pos hY] at hd
    rw [if_pos rfl, h.at_ x hx]
    omega
  · rw [if_neg (by rw [hY]; omega)] at hd
    rw [if_neg e, h.at_ x hx]
    omega
theorem free_iff {E : Int → Int → Prop} {l : List (Int × Int)} (hE : ∀ x, x ∈ l ↔ E x.1 x.2) (x : Int) : cntR l.length (indB l x) = 0 ↔ FreeE E x := by
  rw [cntR_zero]
  constructor
  · intro h a ha
    obtain ⟨q, hq, e⟩ := edA_ex ((hE (a, x)).2 ha)
    have := h q hq
    unfold indB at this
    rw [e] at this
    simp at this
  · intro h q hq
    unfold indB
    refine decide_eq_false fun e => ?_
    have := (hE _).1 (edA_mem hq)
    rw [e] at this
    exact h _ this
theorem alive_0 (l : List (Int × Int)) (R : List Int) (x : Int) (q : Nat) : aliveB l R 0 0 x q = indB l x q := by
  unfold aliveB indB
  simp
def fz (l : List (Int × Int)) (x : Int) : Bool := decide (cntR l.length (indB l x) = 0)
theorem filter_take {D : List Int} {k : Nat} (h : k < D.length) (f : Int → Bool) : (D.take (k + 1)).filter f = (D.take k).filter f ++ (if f (D.getD k 0) = true then [D.getD k 0] else []) := by
  have e : D.getD k 0 = D[k] := by simp [h]
  rw [List.take_add_one, List.getElem?_eq_getElem h, List.filter_append, e]
  cases hf : f D[k] <;> simp [hf]
theorem want_eq {z : CSt} {l : List (Int × Int)} {D F : List Int} (hE : ∀ x, x ∈ l ↔ z.E x.1 x.2) (hD : ∀ x, x ∈ D ↔ z.dirty x) (hDu : D.Pairwise (· < ·)) (hF : ∀ x, x ∈ F ↔ z.dirty x ∧ FreeE z.E x) (hFu : F.Pairwise (· < ·)) : D.filter (fz l) = F := by
  refine rising_one _ _ (hDu.filter _) hFu fun x => ?_
  rw [List.mem_filter, hD, hF]
  unfold fz
  rw [decide_eq_true_iff, free_iff hE]
theorem rinv_0 {z : CSt} {l : List (Int × Int)} {F : List Int} (hE : ∀ x, x ∈ l ↔ z.E x.1 x.2) (hF : ∀ x, x ∈ F ↔ z.dirty x ∧ FreeE z.E x) (hFu : F.Pairwise (· < ·)) : RInv z l F 0 0 := by
  refine ⟨hFu.imp fun {a b} e => by omega, fun x hx => ((hF x).1 hx).1, fun x => ?_⟩
  have e : cntR l.length (aliveB l F 0 0 x) = cntR l.length (indB l x) := cntR_congr fun q _ => alive_0 l F x q
  rw [hF, e, free_iff hE]

set_option maxHeartbeats 1000000 in
set_option maxRecDepth 100000 in
theorem sameInts_same (l : List Int) (a b : Option Addr) (ca cb : Nat) (w : World) (hl : l.length ≤ 4096) (hA : LAt w a l) (hB : LAt w b l) : Calls Tryz.prog 55 #[.slice a l.length ca, .slice b l.length cb] w fun e w' => e = .returned (.bool true) ∧ Chg w w' No := by
  have HA := hid hA
  have HB := hid hB
  clear hA hB
  generalize hm : l.length = m at *
  have HM := hid hm
  clear hm
  go_enter Tryz.func55, Tryz.ntmps55
  go_wp2_with fail
  go_loopw [5] (fun i wr => ∃ (k : Nat) (wq : World), wq = wr ∧ i = .int .i64 k ∧ k ≤ m ∧ Hid (Chg w wq No)) (fun i _ => m - (intOf i).toNat)
  case atStart => exact ⟨0, w, rfl, rfl, by omega, Chg.refl _ _⟩
  case round =>
    obtain ⟨k, wq, rfl, rfl, hk, HC⟩ := hrel
    by_cases hlt : k < m
    · have hki : (k : Int) < (m : Int) := by omega
      obtain ⟨ga, rfl, hga, hca⟩ : ∃ ga, a = some ⟨ga, 0, none⟩ ∧ ga < wq.heap.size ∧ ∀ k, k < l.length → wq.cell? ⟨ga, k, none⟩ = some (.int .i64 (l.getD k 0)) := by
        rcases HA.out.call HC.out with h | h
        · have := HM.out; rw [h] at this; simp at this; omega
        · exact h
      obtain ⟨gb, rfl, hgb, hcb⟩ : ∃ gb, b = some ⟨gb, 0, none⟩ ∧ gb < wq.heap.size ∧ ∀ k, k < l.length → wq.cell? ⟨gb, k, none⟩ = some (.int .i64 (l.getD k 0)) := by
        rcases HB.out.call HC.out with h | h
        · have := HM.out; rw [h] at this; simp at this; omega
        · exact h
      have c1 := hca k (by rw [HM.out]; exact hlt)
      have c2 := hcb k (by rw [HM.out]; exact hlt)
      generalize l.getD k 0 = y at *
      clear hca hcb hga hgb hlt
      go_wp2_with fail
      go_quiet (fail)
      go_wp2_with fail
      exact ⟨⟨k + 1, _, rfl, by go_num, by omega, hid (HC.out.tr (chg_drewN wq _))⟩, by simp [intOf]; omega⟩
    · clear hk
      go_wp2_with fail
      go_ret
      exact ⟨rfl, HC.out⟩

set_option maxRecDepth 100000 in
set_option maxHeartbeats 8000000 in
theorem sound_any {w0 w : World} {t c p g n lb db : Nat} {ρ : Nat → Option Role} {ov : Value} {s : TSt} (h : IsT w0 w t c p g n lb db ρ ov s) :
    Calls Tryz.prog 26 #[.pointer (some ⟨t, 0, none⟩)] w fun e w' => e = .returned (.bool true) ∧ Chg w w' No := by
  have hinv := h.ca.inv
  have hn4 := hinv.top
  have HV := hid hinv
  have HT := hid h
  have q1 := h.c1
  clear h hinv
  go_enter Tryz.func26, Tryz.ntmps26
  go_upto_region 2 with (go_at_call 16; go_must (refine (dirty_any HT.out.ca).mono ?_; rintro e w1 ⟨v, rfl, hI, hc1⟩; obtain ⟨da, dc, rfl, hLA, hLb⟩ := hI.lat; have LD := hid hLA; have HC := hid hc1; replace HT := hid (HT.out.call hc1); replace q1 := HT.out.c1; clear hI hLA hLb hc1))
  go_upto_region 3 with (go_at_call 23; go_must (refine (elig_any HT.out.ca).mono ?_; rintro e w2 ⟨v, rfl, hI, hc1⟩; obtain ⟨fa, fc, rfl, hLA, hLb⟩ := hI.lat; have LF := hid hLA; replace LD := hid (LD.out.call hc1); replace HC := hid (HC.out.tr hc1); replace HT := hid (HT.out.call hc1); replace q1 := HT.out.c1; clear hI hLA hLb hc1))
  go_upto_region 4 with (go_at_call 17; go_must (refine (edgesC_any HT.out.ca).mono ?_; rintro e w3 ⟨v, le, rfl, hE, hL, hc1⟩; obtain ⟨ea, ec, rfl, hEA, hEb⟩ := hE.edat; have LE := hid hEA; have HEL := hid hL; replace LF := hid (LF.out.call hc1); replace LD := hid (LD.out.call hc1); replace HC := hid (HC.out.tr hc1); replace HT := hid (HT.out.call hc1); replace q1 := HT.out.c1; clear hE hEA hEb hL hc1))
  have q2 := HT.out.c2
  have hmI := make_intsN n hn4
  have hmB := make_boolsN n hn4
  have q2' : (w3.alloc (.cells (IA (List.replicate n 0)) 3)).cell? ⟨t, 2, none⟩ = some (.slice (some ⟨lb, 0, none⟩) n n) := cell_keep q2 (Chg.alloc _ _ No) (slt HT.out.me) (fun e => e)
  go_upto_region 6 with fail
  have HGL : Hid (((w3.alloc (.cells (IA (List.replicate n 0)) 3)).alloc (.cells (BA (List.replicate n false)) 4)).heap[w3.heap.size]? = some (.cells (IA (List.replicate n 0)) 3 (0, 0))) := (Chg.alloc _ _ No).keep (heap_alloc_new _ _) (fun e => e)
  have HGI : Hid (((w3.alloc (.cells (IA (List.replicate n 0)) 3)).alloc (.cells (BA (List.replicate n false)) 4)).heap[w3.heap.size + 1]? = some (.cells (BA (List.replicate n false)) 4 (0, 0))) := by
    have := heap_alloc_new (w3.alloc (.cells (IA (List.replicate n 0)) 3)) (.cells (BA (List.replicate n false)) 4)
    rw [show (w3.alloc (.cells (IA (List.replicate n 0)) 3)).heap.size = w3.heap.size + 1 by simp] at this
    exact this
  have hc5 : Chg w3 ((w3.alloc (.cells (IA (List.replicate n 0)) 3)).alloc (.cells (BA (List.replicate n false)) 4)) No := (Chg.alloc _ _ No).tr (Chg.alloc _ _ No)
  have HCZ := hid hc5
  generalize hgl : w3.heap.size = gl at *
  generalize ((w3.alloc (.cells (IA (List.replicate n 0)) 3)).alloc (.cells (BA (List.replicate n false)) 4)) = w5 at *
  have HDm : Hid (∀ x, x ∈ secs s.z.dirty ↔ s.z.dirty x) := fun x => secs_mem.trans ⟨fun k => k.2, fun k => ⟨HV.out.sec k, k⟩⟩
  have HDu := hid (secs_up s.z.dirty)
  have hDl := secs_len s.z.dirty
  have HF0 : Hid (Fl n (List.replicate n false) ((secs s.z.dirty).take 0)) := ⟨by simp, fun x hx => by rw [List.getD_eq_getElem?_getD, List.getElem?_replicate, if_pos hx]; simp⟩
  have HL0 : Hid (Led n (List.replicate n 0) le 0) := ⟨by simp, fun x hx => by rw [List.getD_eq_getElem?_getD, List.getElem?_replicate, if_pos hx]; simp [cntR]⟩
  have HFe : Hid (∀ x, x ∈ (secs fun x => s.z.dirty x ∧ FreeE s.z.E x) ↔ s.z.dirty x ∧ FreeE s.z.E x) := fun x => secs_mem.trans ⟨fun k => k.2, fun k => ⟨HV.out.sec k.1, k⟩⟩
  have HFu := hid (secs_up fun x => s.z.dirty x ∧ FreeE s.z.E x)
  have hFl := secs_len fun x => s.z.dirty x ∧ FreeE s.z.E x
  generalize hDD : secs s.z.dirty = D at *
  have HDD := hid hDD
  generalize (secs fun x => s.z.dirty x ∧ FreeE s.z.E x) = F at *
  clear hc5 hmI hmB q2 q2' hDD
  go_wp2_with fail
  go_loopw [8] (fun i wr => ∃ (k : Nat) (B : List Bool) (wq : World), wq = wr ∧ i = .int .i64 k ∧ k ≤ D.length ∧ Hid (Fl n B (D.take k)) ∧ Hid (wq.heap[gl + 1]? = some (.cells (BA B) 4 (0, 0))) ∧ Hid (wq.heap[gl]? = some (.cells (IA (List.replicate n 0)) 3 (0, 0))) ∧ Hid (Chg w3 wq No)) (fun i _ => D.length - (intOf i).toNat)
  case atStart => exact ⟨0, _, w5, rfl, rfl, by omega, HF0, HGI, HGL, HCZ⟩
  case round =>
    clear HF0 HGI HGL HCZ
    obtain ⟨k, B, wq, rfl, rfl, hk, HB, HGI, HGL, HCZ⟩ := hrel
    by_cases hlt : k < D.length
    · have hki : (k : Int) < (D.length : Int) := by omega
      obtain ⟨gd, rfl, hgd, hcd⟩ : ∃ gd, da = some ⟨gd, 0, none⟩ ∧ gd < wq.heap.size ∧ ∀ k, k < D.length → wq.cell? ⟨gd, k, none⟩ = some (.int .i64 (D.getD k 0)) := by
        rcases LD.out.call HCZ.out with h | h
        · rw [h] at hlt; simp at hlt
        · exact h
      have hXd := (HDm.out _).1 (gmem hlt)
      have hXb := HV.out.ok _ hXd
      obtain ⟨X, hX⟩ := Int.eq_ofNat_of_zero_le hXb.1
      have hX : D.getD k 0 = (X : Int) := hX
      have hXn : X < n := by omega
      have c1 := hcd k hlt
      have HB2 := hid (HB.out.more hlt hX hXn)
      have cB := cellB HGI.out (x := X) (by rw [HB.out.ln]; exact hXn)
      have fB := frozen_of_row wq (gl + 1) X _ _ HGI.out
      have HW1 : Hid ((wq.setCell ⟨gl + 1, X, none⟩ (.bool true)).heap[gl + 1]? = some (.cells (BA (B.set X true)) 4 (0, 0))) := by
        show _ = _
        rw [heap_setCell_same wq (gl + 1) X _ 4 _ HGI.out, BA_set]
      have HW2 : Hid ((wq.setCell ⟨gl + 1, X, none⟩ (.bool true)).heap[gl]? = some (.cells (IA (List.replicate n 0)) 3 (0, 0))) := by
        show _ = _
        rw [heap_setCell_other wq ⟨gl + 1, X, none⟩ gl _ (by simp)]
        exact HGL.out
      have HW3 : Hid (Chg w3 (wq.setCell ⟨gl + 1, X, none⟩ (.bool true)) No) := HCZ.out.trans Chg.setCell (fun _ _ e => e) (fun j hj e => by omega)
      rw [hX] at c1
      have HUP : Hid (∀ k', k' + 1 = k → D.getD k' 0 < (X : Int)) := fun k' e => by
        have h1 : k' < D.length := by omega
        have h2 := List.pairwise_iff_getElem.1 HDu.out k' k h1 hlt (by omega)
        have e1 : D.getD k' 0 = D[k'] := by simp [h1]
        have e2 : D.getD k 0 = D[k] := by simp [hlt]
        rw [e1, ← hX, e2]
        exact h2
      generalize B.getD X false = bv at *
      clear HGI HGL HCZ HB hXd hXb hX hgd
      rcases k with _ | k'
      · clear hcd HUP
        have hd1 : decide ((X : Int) < 0) = false := decide_eq_false (by omega)
        have hd2 : decide (n ≤ X) = false := decide_eq_false (by omega)
        rw [show ((0 : Nat) : Int) = 0 from rfl]
        go_wp2_with fail
        go_quiet (fail)
        go_wp2_with fail
        exact ⟨⟨0 + 1, B.set X true, _, rfl, by go_num, by omega, HB2, hid HW1.out, hid HW2.out, hid (HW3.out.tr (chg_drewN _ nq))⟩, by simp [intOf]; omega⟩
      · have c2 := hcd k' (by omega)
        have hup := HUP.out k' rfl
        generalize D.getD k' 0 = Y at *
        clear hcd HUP
        have hd1 : decide ((X : Int) < 0) = false := decide_eq_false (by omega)
        have hd2 : decide (n ≤ X) = false := decide_eq_false (by omega)
        have hd4 : decide ((X : Int) ≤ Y) = false := decide_eq_false (by omega)
        go_wp2_with fail
        go_quiet (fail)
        go_wp2_with fail
        exact ⟨⟨k' + 1 + 1, B.set X true, _, rfl, by go_num, by omega, HB2, hid HW1.out, hid HW2.out, hid (HW3.out.tr (chg_drewN _ nq))⟩, by simp [intOf]; omega⟩
    · have ek : k = D.length := by omega
      subst ek
      rw [List.take_length] at HB
      have HL := hid (And.intro HB.out.ln HB.out.at_)
      have hEl := elist_len2 HEL.out HV.out.inSec
      clear hk hlt
      go_wp2_with fail
      have HGI0 := HGI
      have HGL0 := HGL
      have HCZ0 := HCZ
      clear HGI HGL HCZ
      go_loopw [9, 10] (fun i _ wr => ∃ (k : Nat) (Q : List Int) (wq : World), wq = wr ∧ i = .int .i64 k ∧ k ≤ le.length ∧ Hid (Led n Q le k) ∧ Hid (wq.heap[gl + 1]? = some (.cells (BA B) 4 (0, 0))) ∧ Hid (wq.heap[gl]? = some (.cells (IA Q) 3 (0, 0))) ∧ Hid (Chg w3 wq No)) (fun i _ _ => le.length - (intOf i).toNat)
      case atStart => exact ⟨0, _, _, rfl, rfl, by omega, HL0, HGI0, HGL0, HCZ0⟩
      case round =>
        clear HGI0 HGL0 HCZ0 HL0
        obtain ⟨k, Q, wq, rfl, rfl, hk, HQ, HGI, HGL, HCZ⟩ := hrel
        by_cases hlt : k < le.length
        · have hki : (k : Int) < (le.length : Int) := by omega
          obtain ⟨ge, rfl, hge, hce⟩ : ∃ ge, ea = some ⟨ge, 0, none⟩ ∧ ge < wq.heap.size ∧ ∀ k, k < le.length → wq.cell? ⟨ge, k * 2, none⟩ = some (.int .i64 (le.getD k (0, 0)).1) ∧ wq.cell? ⟨ge, k * 2 + 1, none⟩ = some (.int .i64 (le.getD k (0, 0)).2) := by
            rcases LE.out.call HCZ.out with h | h
            · rw [h] at hlt; simp at hlt
            · exact h
          have hE := (HEL.out.2 _).1 (edA_mem hlt)
          have hdi := HV.out.ed _ _ hE
          have hb1 := HV.out.ok _ hdi.1
          have hb2 := HV.out.ok _ hdi.2
          obtain ⟨X, hX⟩ := Int.eq_ofNat_of_zero_le hb1.1
          obtain ⟨Y, hY⟩ := Int.eq_ofNat_of_zero_le hb2.1
          have hX : (edA le k).1 = (X : Int) := hX
          have hY : (edA le k).2 = (Y : Int) := hY
          have hXn : X < n := by omega
          have hYn : Y < n := by omega
          have hne : X ≠ Y := fun e => by
            have : s.z.E (X : Int) (X : Int) := by rw [hX, hY, ← e] at hE; exact hE
            exact HV.out.ring _ (.one this)
          have hneb : ((X : Int) == (Y : Int)) = false := by simp; omega
          have hlA : edA le k = ((X : Int), (Y : Int)) := Prod.ext hX hY
          have hr : wq.rangeAt ge (k * 2) [.int .i64 (X : Int), .int .i64 (Y : Int)] := by
            have h1 := hce k hlt
            rw [show le.getD k (0, 0) = ((X : Int), (Y : Int)) from hlA] at h1
            intro i v hv
            match i, hv with
            | 0, hv => simp at hv; subst hv; exact h1.1
            | 1, hv => simp at hv; subst hv; exact h1.2
            | i + 2, hv => simp at hv
          have HQ2 := hid (HQ.out.more hY hYn)
          have hqv := HQ.out.at_ Y hYn
          have hqc := cntR_le k (indB le (Y : Int))
          generalize cntR k (indB le (Y : Int)) = cn at *
          have HWA : Hid (Chg wq (wq.alloc (.cells #[.int .i64 (X : Int), .int .i64 (Y : Int)] 91)) No) := Chg.alloc _ _ No
          have HU := hid (heap_alloc_new wq (.cells #[.int .i64 (X : Int), .int .i64 (Y : Int)] 91))
          have HGI2 := hid (HWA.out.keep HGI.out (fun e => e))
          have HGL2 := hid (HWA.out.keep HGL.out (fun e => e))
          have HCZ2 := hid (HCZ.out.tr HWA.out)
          have HPV : Hid (∀ k', k' + 1 = k → ltE (le.getD k' (0, 0)) ((X : Int), (Y : Int))) := fun k' e => by
            have h1 : k' < le.length := by omega
            have h2 := List.pairwise_iff_getElem.1 HEL.out.1 k' k h1 hlt (by omega)
            have e1 : le.getD k' (0, 0) = le[k'] := by simp [h1]
            have e2 : edA le k = le[k] := by unfold edA; simp [hlt]
            rw [e1, ← hlA, e2]
            exact h2
          have HPC : Hid (∀ k', k' + 1 = k → (wq.alloc (.cells #[.int .i64 (X : Int), .int .i64 (Y : Int)] 91)).cell? ⟨ge, k' * 2, none⟩ = some (.int .i64 (le.getD k' (0, 0)).1) ∧ (wq.alloc (.cells #[.int .i64 (X : Int), .int .i64 (Y : Int)] 91)).cell? ⟨ge, k' * 2 + 1, none⟩ = some (.int .i64 (le.getD k' (0, 0)).2)) := fun k' e => ⟨cell_keep (hce k' (by omega)).1 HWA.out hge (fun e => e), cell_keep (hce k' (by omega)).2 HWA.out hge (fun e => e)⟩
          go_upto_region 16 with (refine wpList_load_mid rfl 91 _ rfl ge (k * 2) rfl [.int .i64 (X : Int), .int .i64 (Y : Int)] _ hr Tryz.underlying91 rfl (by kernel_rfl) ?_)
          generalize hua : wq.alloc (.cells #[.int .i64 (X : Int), .int .i64 (Y : Int)] 91) = wa at *
          generalize wq.heap.size = u at *
          have u0 : wa.cell? ⟨u, 0, none⟩ = some (.int .i64 (X : Int)) := by rw [cell_of_row _ _ _ _ _ _ HU.out]; rfl
          have u1 : wa.cell? ⟨u, 1, none⟩ = some (.int .i64 (Y : Int)) := by rw [cell_of_row _ _ _ _ _ _ HU.out]; rfl
          have i0 := cellB HGI2.out (x := X) (by rw [HL.out.1]; exact hXn)
          have i1 := cellB HGI2.out (x := Y) (by rw [HL.out.1]; exact hYn)
          rw [(HL.out.2 X hXn).2 ((HDm.out _).2 (by rw [← hX]; exact hdi.1))] at i0
          rw [(HL.out.2 Y hYn).2 ((HDm.out _).2 (by rw [← hY]; exact hdi.2))] at i1
          have l1 := cellI HGL2.out (x := Y) (by rw [HQ.out.ln]; exact hYn)
          have f1 := frozen_of_row wa gl Y _ _ HGL2.out
          rw [hqv] at l1 HQ2
          have HW1 : Hid ((wa.setCell ⟨gl, Y, none⟩ (.int .i64 ((cn : Int) + 1))).heap[gl]? = some (.cells (IA (Q.set Y ((cn : Int) + 1))) 3 (0, 0))) := by
            show _ = _
            rw [heap_setCell_same wa gl Y _ 3 _ HGL2.out, IA_set]
          have HW2 : Hid ((wa.setCell ⟨gl, Y, none⟩ (.int .i64 ((cn : Int) + 1))).heap[gl + 1]? = some (.cells (BA B) 4 (0, 0))) := by
            show _ = _
            rw [heap_setCell_other wa ⟨gl, Y, none⟩ (gl + 1) _ (by simp)]
            exact HGI2.out
          have HW3 : Hid (Chg w3 (wa.setCell ⟨gl, Y, none⟩ (.int .i64 ((cn : Int) + 1))) No) := HCZ2.out.trans Chg.setCell (fun _ _ e => e) (fun j hj e => by omega)
          have hXi : (X : Int) < (n : Int) := by omega
          have hYi : (Y : Int) < (n : Int) := by omega
          clear HQ HGI HGL HCZ hE hdi hb1 hb2 hX hY hlA hce hr hge hqv hne HGI2 HGL2 HCZ2 HWA HU hua
          have hd1 : decide ((X : Int) < 0) = false := decide_eq_false (by omega)
          have hd2 : decide ((Y : Int) < 0) = false := decide_eq_false (by omega)
          have hd3 : decide (n ≤ X) = false := decide_eq_false (by omega)
          have hd4 : decide (n ≤ Y) = false := decide_eq_false (by omega)
          go_upto_region 18 with fail
          rcases k with _ | k'
          · clear HPV HPC
            rw [show ((0 : Nat) : Int) = 0 from rfl]
            go_quiet (fail)
            go_wp2_with fail
            exact ⟨⟨0 + 1, _, _, rfl, by go_num, by omega, HQ2, hid HW2.out, hid HW1.out, hid (HW3.out.tr (chg_drewN _ nq))⟩, by simp [intOf]; omega⟩
          · have hp := HPV.out k' rfl
            obtain ⟨cc1, cc2⟩ := HPC.out k' rfl
            generalize le.getD k' (0, 0) = pr at *
            obtain ⟨X', Y'⟩ := pr
            unfold ltE at hp
            simp only at hp cc1 cc2
            clear HPV HPC
            rcases hp with hp | ⟨hp, hp2⟩
            · have hb1 : ((X : Int) == X') = false := by simp; omega
              have hb2 : decide ((X : Int) < X') = false := decide_eq_false (by omega)
              go_quiet (fail)
              go_wp2_with fail
              exact ⟨⟨k' + 1 + 1, _, _, rfl, by go_num, by omega, HQ2, hid HW2.out, hid HW1.out, hid (HW3.out.tr (chg_drewN _ nq))⟩, by simp [intOf]; omega⟩
            · subst hp
              have hb2 : decide ((Y : Int) ≤ Y') = false := decide_eq_false (by omega)
              go_quiet (fail)
              go_wp2_with fail
              exact ⟨⟨k' + 1 + 1, _, _, rfl, by go_num, by omega, HQ2, hid HW2.out, hid HW1.out, hid (HW3.out.tr (chg_drewN _ nq))⟩, by simp [intOf]; omega⟩
        · have ek : k = le.length := by omega
          subst ek
          have HQ0 := HQ
          clear hk hlt HQ
          go_wp2_with fail
          have HGI0 := HGI
          have HGL0 := HGL
          have HCZ0 := HCZ
          have HSZ : Hid (gl + 2 ≤ wq.heap.size) := by
            have := slt HGI.out
            show _ ≤ _
            omega
          clear HGI HGL HCZ
          go_loopw [11, 12] (fun v i wr => ∃ (k : Nat) (wr' : World), wr' = wr ∧ i = .int .i64 k ∧ k ≤ D.length ∧ Hid (Ints wr' (gl + 2) v ((D.take k).filter (fz le))) ∧ Hid (wr'.heap[gl]? = some (.cells (IA Q) 3 (0, 0))) ∧ Hid (Chg w3 wr' No) ∧ Hid (gl + 2 ≤ wr'.heap.size)) (fun _ i _ => D.length - (intOf i).toNat)
          case atStart => exact ⟨0, _, rfl, rfl, by omega, hid (World.ownsRow_nil _ _ _ _), HGL0, HCZ0, HSZ⟩
          case round =>
            clear HGI0 HGL0 HCZ0 HSZ
            obtain ⟨k, wq, rfl, rfl, hk, HI, HGL, HCZ, HSZ⟩ := hrel
            by_cases hlt : k < D.length
            · have hki : (k : Int) < (D.length : Int) := by omega
              obtain ⟨gd, rfl, hgd, hcd⟩ : ∃ gd, da = some ⟨gd, 0, none⟩ ∧ gd < wq.heap.size ∧ ∀ k, k < D.length → wq.cell? ⟨gd, k, none⟩ = some (.int .i64 (D.getD k 0)) := by
                rcases LD.out.call HCZ.out with h | h
                · rw [h] at hlt; simp at hlt
                · exact h
              have hXd := (HDm.out _).1 (gmem hlt)
              have hXb := HV.out.ok _ hXd
              obtain ⟨X, hX⟩ := Int.eq_ofNat_of_zero_le hXb.1
              have hX : D.getD k 0 = (X : Int) := hX
              have hXn : X < n := by omega
              have hXi : (X : Int) < (n : Int) := by omega
              have c1 := hcd k hlt
              have l1 := cellI HGL.out (x := X) (by rw [HQ0.out.ln]; exact hXn)
              rw [HQ0.out.at_ X hXn] at l1
              have HFT := hid (filter_take hlt (fz le))
              rw [hX] at c1 HFT
              have hlen : ((D.take k).filter (fz le)).length ≤ 4096 := Nat.le_trans (List.length_filter_le _ _) (by simp; omega)
              obtain ⟨va, vc, rfl, _, _⟩ := HI.out.lat
              clear hcd hgd hXd hXb hX
              by_cases h0 : cntR le.length (indB le (X : Int)) = 0
              · have hf : fz le (X : Int) = true := decide_eq_true h0
                rw [hf, if_pos rfl] at HFT
                rw [h0] at l1
                have HI4 := hid (row_keep HI.out (Chg.alloc wq (.cells #[.int .i64 (X : Int)] 3) No) (fun _ _ e => e))
                have hcell := cell0 (heap_alloc_new wq (.cells #[.int .i64 (X : Int)] 3))
                have hbz := HSZ.out
                clear h0 hf hlt
                go_wp2_with (first
                  | (at_builtin; go_must (refine wp_appI rfl _ _ rfl (gl + 2) wq.heap.size 1 _ _ (X : Int) rfl rfl HI4.out hcell (by omega) (by simp; omega) ?_; intro v5 w5' h51 h52 h53))
                  | go_in)
                have hch : Chg wq w5' (fun j => gl + 2 ≤ j) := (Chg.alloc wq (.cells #[.int .i64 (X : Int)] 3) No).trans h52 (fun _ _ e => e.elim) (fun j _ e => (row_ge HI4.out e).1)
                have hGL5 := hch.keep HGL.out (by omega)
                have hCZ5 : Chg w3 w5' No := HCZ.out.trans hch (fun _ _ e => e) (fun j hj e => by omega)
                go_roundw
                case rel => exact ⟨k + 1, w5', rfl, by go_num, by omega, hid (by rw [HFT.out]; exact h51), hid hGL5, hid hCZ5, hid (by have := hch.size; omega)⟩
                case measure => simp [intOf]; omega
              · have hf : fz le (X : Int) = false := decide_eq_false h0
                rw [hf] at HFT
                simp at HFT
                have hcb : ((cntR le.length (indB le (X : Int)) : Int) == 0) = false := by simp; exact h0
                generalize cntR le.length (indB le (X : Int)) = cn at *
                clear h0 hf hlt
                go_wp2_with fail
                go_roundw
                case rel => exact ⟨k + 1, wq, rfl, by go_num, by omega, hid (by rw [HFT.out]; exact HI.out), HGL, HCZ, HSZ⟩
                case measure => simp [intOf]; omega
            · have ek : k = D.length := by omega
              subst ek
              rw [List.take_length, want_eq HEL.out.2 HDm.out HDu.out HFe.out HFu.out] at HI
              clear hk hlt
              obtain ⟨va, vc, rfl, hLA, hLb⟩ := HI.out.lat
              have HSI := sameInts_same F va fa vc fc wq hFl hLA (LF.out.call HCZ.out)
              have HLF : Hid (LedF n Q fun x => cntR le.length (aliveB le F 0 0 x)) := ⟨HQ0.out.ln, fun x hx => by
                rw [HQ0.out.at_ x hx]
                congr 1
                exact (cntR_congr fun q _ => alive_0 le F (x : Int) q).symm⟩
              have HR0 := hid (rinv_0 HEL.out.2 HFe.out HFu.out)
              clear hLA hLb
              go_upto_region 30 with (go_at_call 55; go_must (refine HSI.mono ?_; rintro e w6 ⟨rfl, hc6⟩; have HI6 := hid (row_keep HI.out hc6 (fun _ _ e => e)); have HGL6 := hid (hc6.keep HGL.out (fun e => e)); have HCZ6 := hid (HCZ.out.tr hc6); have HSZ6 : Hid (gl + 2 ≤ w6.heap.size) := Nat.le_trans HSZ.out hc6.size; clear HSI hc6))
              clear HI HGL HCZ HSZ HL HQ0
              go_wp2_with fail
              go_loopw [13, 14] (fun v i wr => ∃ (i' : Nat) (R : List Int) (Q : List Int) (wr' : World), wr' = wr ∧ i = .int .i64 i' ∧ i' ≤ R.length ∧ R.length ≤ D.length ∧ Hid (RInv s.z le R i' 0) ∧ Hid (LedF n Q fun x => cntR le.length (aliveB le R i' 0 x)) ∧ Hid (Ints wr' (gl + 2) v R) ∧ Hid (wr'.heap[gl]? = some (.cells (IA Q) 3 (0, 0))) ∧ Hid (Chg w3 wr' No) ∧ Hid (gl + 2 ≤ wr'.heap.size)) (fun _ i _ => D.length + 1 - (intOf i).toNat)
              case atStart =>
                refine ⟨0, F, Q, _, rfl, rfl, by omega, ?_, HR0, HLF, HI6, HGL6, HCZ6, HSZ6⟩
                exact nodup_len F D HR0.out.nd fun x hx => (HDm.out x).2 (HR0.out.di x hx)
              case round =>
                clear HR0 HLF HI6 HGL6 HCZ6 HSZ6
                obtain ⟨i, R, Q, wq, rfl, rfl, hi, hRD, HR, HQ, HI, HGL, HCZ, HSZ⟩ := hrel
                obtain ⟨va, vc, rfl, hLA, hLb⟩ := HI.out.lat
                by_cases hil : i < R.length
                · have hii : (i : Int) < (R.length : Int) := by omega
                  have HI0 := HI
                  have HGL0 := HGL
                  have HCZ0 := HCZ
                  have HSZ0 := HSZ
                  have HR0 := HR
                  have HQ0 := HQ
                  clear hLA hLb HI HGL HCZ HSZ HR HQ
                  go_wp2_with fail
                  go_loopw [13, 15] (fun v j wr => ∃ (k : Nat) (R : List Int) (Q : List Int) (wr' : World), wr' = wr ∧ j = .int .i64 k ∧ k ≤ le.length ∧ i < R.length ∧ R.length ≤ D.length ∧ Hid (RInv s.z le R i k) ∧ Hid (LedF n Q fun x => cntR le.length (aliveB le R i k x)) ∧ Hid (Ints wr' (gl + 2) v R) ∧ Hid (wr'.heap[gl]? = some (.cells (IA Q) 3 (0, 0))) ∧ Hid (Chg w3 wr' No) ∧ Hid (gl + 2 ≤ wr'.heap.size)) (fun _ j _ => le.length - (intOf j).toNat)
                  case atStart => exact ⟨0, R, Q, _, rfl, rfl, by omega, hil, hRD, HR0, HQ0, HI0, HGL0, HCZ0, HSZ0⟩
                  case round =>
                    clear HI0 HGL0 HCZ0 HSZ0 HR0 HQ0 hil hi hRD hii
                    obtain ⟨k, R, Q, wq, rfl, rfl, hk, hil, hRD, HR, HQ, HI, HGL, HCZ, HSZ⟩ := hrel
                    obtain ⟨va, vc, rfl, hLA, hLb⟩ := HI.out.lat
                    have hii : (i : Int) < (R.length : Int) := by omega
                    by_cases hlt : k < le.length
                    · have hki : (k : Int) < (le.length : Int) := by omega
                      obtain ⟨gr, rfl, hgr, hcr⟩ : ∃ gr, va = some ⟨gr, 0, none⟩ ∧ gr < wq.heap.size ∧ ∀ k, k < R.length → wq.cell? ⟨gr, k, none⟩ = some (.int .i64 (R.getD k 0)) := by
                        rcases hLA with h | h
                        · rw [h] at hil; simp at hil
                        · exact h
                      obtain ⟨ge, rfl, hge, hce⟩ : ∃ ge, ea = some ⟨ge, 0, none⟩ ∧ ge < wq.heap.size ∧ ∀ k, k < le.length → wq.cell? ⟨ge, k * 2, none⟩ = some (.int .i64 (le.getD k (0, 0)).1) ∧ wq.cell? ⟨ge, k * 2 + 1, none⟩ = some (.int .i64 (le.getD k (0, 0)).2) := by
                        rcases LE.out.call HCZ.out with h | h
                        · rw [h] at hlt; simp at hlt
                        · exact h
                      have hge3 : ge < w3.heap.size := by
                        rcases LE.out with h | ⟨g', e, hg', _⟩
                        · rw [h] at hlt; simp at hlt
                        · cases e; exact hg'
                      have cr := hcr i hil
                      obtain ⟨ce1, ce2⟩ := hce k hlt
                      have hE := (HEL.out.2 _).1 (edA_mem hlt)
                      have hdi := HV.out.ed _ _ hE
                      have hb2 := HV.out.ok _ hdi.2
                      obtain ⟨Y, hY⟩ := Int.eq_ofNat_of_zero_le hb2.1
                      have hY : (edA le k).2 = (Y : Int) := hY
                      have hYn : Y < n := by omega
                      have hYi : (Y : Int) < (n : Int) := by omega
                      rw [show (le.getD k (0, 0)).2 = (Y : Int) from hY] at ce2
                      replace ce1 : wq.cell? ⟨ge, k * 2, none⟩ = some (.int .i64 (edA le k).1) := ce1
                      clear hLA hLb hcr hgr hce hE hb2
                      by_cases he : (edA le k).1 = R.getD i 0
                      · rw [he] at ce1
                        have HQ2 := hid (HQ.out.drop HR.out.nd hil hlt he hY hYn)
                        have hqv := HQ.out.at_ Y hYn
                        have hqd := alive_drop (x := (Y : Int)) HR.out.nd hil hlt he
                        rw [if_pos hY] at hqd
                        have l1 := cellI HGL.out (x := Y) (by rw [HQ.out.ln]; exact hYn)
                        have hqb := cntR_le le.length (aliveB le R i (k + 1) (Y : Int))
                        have HDR : Hid (¬ cntR le.length (aliveB le R i (k + 1) (Y : Int)) = 0 → RInv s.z le R i (k + 1)) := fun h0 => HR.out.drop hil hlt he (by rw [hY]; exact h0)
                        have HFR : Hid (cntR le.length (aliveB le R i (k + 1) (Y : Int)) = 0 → RInv s.z le (R ++ [(Y : Int)]) i (k + 1)) := fun h0 => by
                          have := HR.out.free hil hlt he hdi.2 (by rw [hY]; exact h0)
                          rw [hY] at this
                          exact this
                        have HCA : Hid (∀ x, cntR le.length (aliveB le (R ++ [(Y : Int)]) i (k + 1) x) = cntR le.length (aliveB le R i (k + 1) x)) := fun x => cntR_congr fun q _ => alive_app hil
                        generalize hcn : cntR le.length (aliveB le R i (k + 1) (Y : Int)) = cn at *
                        rw [hqv, ← hqd] at l1
                        rw [hqv, ← hqd] at HQ2
                        have e1 : ((cn + 1 : Nat) : Int) - 1 = (cn : Int) := by omega
                        rw [e1] at HQ2
                        have hgne : ge ≠ gl := by omega
                        have HGe := hid hge3
                        generalize hRi : R.getD i 0 = Ri at *
                        clear he hdi hY hqv hqd hcn HR HQ hRi hge3
                        go_wp2_with fail
                        go_quiet (fail)
                        generalize hwd : wq.drewN nq = wd at *
                        have hcd : Chg wq wd No := by rw [← hwd]; exact chg_drewN wq nq
                        have l1d : wd.cell? ⟨gl, Y, none⟩ = some (.int .i64 ((cn + 1 : Nat) : Int)) := by rw [← hwd]; exact l1
                        rw [show ((cn + 1 : Nat) : Int) = (cn : Int) + 1 by omega] at l1d
                        have HGd : Hid (wd.heap[gl]? = some (.cells (IA Q) 3 (0, 0))) := by rw [← hwd]; exact HGL.out
                        have f1d := frozen_of_row wd gl Y _ _ HGd.out
                        have c2d : wd.cell? ⟨ge, k * 2 + 1, none⟩ = some (.int .i64 (Y : Int)) := by rw [← hwd]; exact ce2
                        have HId := hid (row_keep HI.out hcd (fun _ _ e => e))
                        have HCd := hid (HCZ.out.tr hcd)
                        have HSd : Hid (gl + 2 ≤ wd.heap.size) := Nat.le_trans HSZ.out hcd.size
                        have hged := cell_lt2 c2d
                        have c2e : (wd.setCell ⟨gl, Y, none⟩ (.int .i64 (cn : Int))).cell? ⟨ge, k * 2 + 1, none⟩ = some (.int .i64 (Y : Int)) := cell_keep c2d Chg.setCell hged hgne
                        have HW1 : Hid ((wd.setCell ⟨gl, Y, none⟩ (.int .i64 (cn : Int))).heap[gl]? = some (.cells (IA (Q.set Y (cn : Int))) 3 (0, 0))) := by
                          show _ = _
                          rw [heap_setCell_same wd gl Y _ 3 _ HGd.out, IA_set]
                        have lYe : (wd.setCell ⟨gl, Y, none⟩ (.int .i64 (cn : Int))).cell? ⟨gl, Y, none⟩ = some (.int .i64 (cn : Int)) := by
                          rw [cellI HW1.out (x := Y) (by rw [HQ2.out.ln]; exact hYn), set_getD (by have := HQ2.out.ln; rw [List.length_set] at this; rw [this]; exact hYn), if_pos rfl]
                        have HIe := hid (row_keep HId.out (Chg.setCell (w := wd) (g := gl) (j := Y) (v := .int .i64 (cn : Int))) (fun j hj e => by have := (row_ge HId.out hj).1; omega))
                        have HCe : Hid (Chg w3 (wd.setCell ⟨gl, Y, none⟩ (.int .i64 (cn : Int))) No) := HCd.out.trans Chg.setCell (fun _ _ e => e) (fun j hj e => by omega)
                        have HSe : Hid (gl + 2 ≤ (wd.setCell ⟨gl, Y, none⟩ (.int .i64 (cn : Int))).heap.size) := Nat.le_trans HSd.out (Chg.setCell (w := wd) (g := gl) (j := Y) (v := .int .i64 (cn : Int))).size
                        clear hwd hcd l1 ce1 ce2 cr HI HGL HCZ HSZ HId HCd HSd HGd hged
                        by_cases h0 : cn = 0
                        · subst h0
                          have HRn := hid (HFR.out rfl)
                          have hRl : (R ++ [(Y : Int)]).length ≤ D.length := nodup_len _ D HRn.out.nd fun x hx => (HDm.out x).2 (HRn.out.di x hx)
                          have HQn := hid (HQ2.out.congr HCA.out)
                          clear HFR HDR HQ2 HCA
                          rw [show ((0 : Nat) : Int) = 0 from rfl] at *
                          go_upto_region 39 with fail
                          generalize wd.setCell ⟨gl, Y, none⟩ (.int .i64 (0 : Int)) = we at *
                          have HI4 := hid (row_keep HIe.out (Chg.alloc we (.cells #[.int .i64 (Y : Int)] 3) No) (fun _ _ e => e))
                          have hcell := cell0 (heap_alloc_new we (.cells #[.int .i64 (Y : Int)] 3))
                          have hbz := HSe.out
                          go_wp2_with (first
                            | (at_builtin; go_must (refine wp_appI rfl _ _ rfl (gl + 2) we.heap.size 1 _ R (Y : Int) rfl rfl HI4.out hcell (by omega) (by simp; omega) ?_; intro v5 w5' h51 h52 h53))
                            | go_in)
                          have hch : Chg we w5' (fun j => gl + 2 ≤ j) := (Chg.alloc we (.cells #[.int .i64 (Y : Int)] 3) No).trans h52 (fun _ _ e => e.elim) (fun j _ e => (row_ge HI4.out e).1)
                          have hGL5 := hch.keep HW1.out (by omega)
                          have hCZ5 : Chg w3 w5' No := HCe.out.trans hch (fun _ _ e => e) (fun j hj e => by omega)
                          go_roundw
                          case rel => exact ⟨k + 1, R ++ [(Y : Int)], _, w5', rfl, by go_num, by omega, by simp; omega, hRl, HRn, HQn, hid h51, hid hGL5, hid hCZ5, hid (by have := hch.size; omega)⟩
                          case measure => simp [intOf]; omega
                        · have HRn := hid (HDR.out h0)
                          have hcb : ((cn : Int) == 0) = false := by simp; exact h0
                          clear HFR HDR HCA h0
                          go_wp2_with fail
                          go_roundw
                          case rel => exact ⟨k + 1, R, _, _, rfl, by go_num, by omega, hil, hRD, HRn, HQ2, HIe, HW1, HCe, HSe⟩
                          case measure => simp [intOf]; omega
                      · have heb : ((edA le k).1 == R.getD i 0) = false := beq_eq_false_iff_ne.2 he
                        have HRn := hid (HR.out.skip he)
                        have HQn : Hid (LedF n Q fun x => cntR le.length (aliveB le R i (k + 1) x)) := HQ.out.congr fun x => cntR_congr fun q _ => alive_skip he q
                        generalize (edA le k).1 = ex at *
                        generalize R.getD i 0 = Ri at *
                        clear hdi hY HR HQ hge3
                        go_wp2_with fail
                        go_quiet (fail)
                        go_wp2_with fail
                        go_roundw
                        case rel => exact ⟨k + 1, R, Q, _, rfl, by go_num, by omega, hil, hRD, HRn, HQn, hid (row_keep HI.out (chg_drewN wq nq) (fun _ _ e => e)), hid HGL.out, hid (HCZ.out.tr (chg_drewN wq nq)), hid HSZ.out⟩
                        case measure => simp [intOf]; omega
                    · have ek : k = le.length := by omega
                      subst ek
                      have HRn := hid (HR.out.next hil)
                      have HQn : Hid (LedF n Q fun x => cntR le.length (aliveB le R (i + 1) 0 x)) := HQ.out.congr fun x => cntR_congr (alive_next hil)
                      clear hk hlt HR HQ hLA hLb
                      go_wp2_with fail
                      go_roundw
                      case rel => exact ⟨i + 1, R, Q, wq, rfl, by go_num, by omega, hRD, HRn, HQn, HI, HGL, HCZ, HSZ⟩
                      case measure => simp [intOf]; omega
                · have ei : i = R.length := by omega
                  subst ei
                  have hall := HR.out.all HV.out HEL.out.2
                  rw [HDD.out] at hall
                  clear hi hil hLA hLb
                  go_wp2_with fail
                  go_ret
                  exact ⟨rfl, HC.out.tr HCZ.out⟩

end Go.Proofs.YtlkmfhpnofpjdaaGreat

namespace Go.Proofs.YtlkmfhpnofpjdaaGreat
open Go.RowKit

set_option maxRecDepth 100000 in
set_option maxHeartbeats 4000000 in
theorem rings_walk (x0 : Int) (hx0 : I64 x0) (l : List SV) (ad : Option Addr) (cap : Nat) (w : World) (hs : ScAt w ad l) (hl : l.length ≤ 1048576) (hok : ∀ j, j < l.length → (l.getD j SV.z).OK) :
    Calls Tryz.prog 6 #[.int .i64 x0, .slice ad l.length cap] w fun e w' => e = .returned (.bool true) ∧ Chg w w' No := by
  have hb := D.pickN_bd x0 (n := 25) (by omega)
  obtain ⟨n, hn⟩ : ∃ n : Nat, 8 + D.pickN x0 25 = (n : Int) := ⟨(8 + D.pickN x0 25).toNat, by omega⟩
  have hn8 : 8 ≤ n := by omega
  have hn4 : n ≤ 4096 := by omega
  have HST := starts_any x0 hx0 w n hn
  have HKN := hid (fun w => known_any w)
  have HS := hid hs
  have HOKs := hid hok
  have HN := hid (And.intro hn8 hn4)
  generalize hm : l.length = m at *
  have HM := hid hm
  clear hn hb hs hok hm
  go_enter Tryz.func6, Tryz.ntmps6
  go_wp2_with (first
    | (go_at_call 24; go_must (refine HST.mono ?_; rintro e w1 ⟨t, c, p, g, rfl, hF1⟩; have HF1 := hid hF1; have HK1 := HKN.out w1; clear HST hF1))
    | (go_at_call 9; go_must (refine HK1.mono ?_; rintro e w2 ⟨rfl, hc2⟩; have HF2 := hid (HF1.out.call hc2); clear HK1 hc2))
    | fail)
  go_loopw [6, 7, 8] (fun i _ _ wr => ∃ (k : Nat) (s : TSt) (wq : World), wq = wr ∧ k ≤ m ∧ i = .int .i64 k ∧ FT w wq t c p g n s ∧ TK n s ∧ s.nx ≤ k + 1 ∧ s.z.d.wr ≤ 5000 * k ∧ s.od.length ≤ 12 * k) (fun i _ _ _ => m - (intOf i).toNat)
  case atStart => exact ⟨0, startT n, w2, rfl, by omega, rfl, HF2.out, start_tk n HN.out.2, by show (1 : Int) ≤ _; simp, by show (0 : Int) ≤ _; simp, by show (0 : Nat) ≤ _; simp⟩
  case round =>
    obtain ⟨k, s, wq, rfl, hkm, rfl, hF, hK, hnx, hwr, hod⟩ := hrel
    clear HF1 HF2
    by_cases hlt : k < m
    · have hch := hF.chg
      rcases HS.out with h0 | ⟨b, o, rfl, hbl, hsc⟩
      · have := HM.out; rw [h0] at this; simp at this; omega
      obtain ⟨a, ca, hra, haa⟩ := hsc k (by rw [HM.out]; exact hlt)
      have hokx := HOKs.out k hlt
      generalize l.getD k SV.z = x at *
      have hr : wq.rangeAt b (o + k * 5) (x.cells a ca) := fun i v hv => cell_keep (hra i v hv) hch hbl (fun e => e)
      have HSTP := step_any x a ca hF hK HN.out.1 hokx haa (by omega) (by omega) (by omega)
      have HG := hid (And.intro hnx (And.intro hwr hod))
      have hi0 : (0 : Int) ≤ (k : Int) := by omega
      have hi1 : (k : Int) < (m : Int) := by omega
      have HLT := hid hlt
      clear hF hK hnx hwr hod hch hra haa hokx hsc hbl
      go_upto_region 8 with (first
        | (refine wpList_load_mid rfl 29 _ rfl b (o + k * 5) rfl (x.cells a ca) _ hr Tryz.underlying29 rfl (by rw [szSt]; rfl) ?_)
        | (go_at_call 25; go_must (refine HSTP.mono ?_; rintro e w3 ⟨s1, ov, e1, rfl, hKe, hc3, hw3⟩; have HE := hid (And.intro hKe (And.intro hc3 hw3)); clear HSTP hKe hc3 hw3 hr))
        | fail)
      cases ov
      · obtain ⟨hKe, _, hw3⟩ := HE.out
        rcases hw3 with ⟨_, rfl, lb, db, ρ, ovv, hT3⟩ | ⟨e, _⟩
        · have HSN := sound_any hT3
          have HT3 := hid hT3
          have HKe := hid hKe
          clear hT3 hKe
          go_wp2_with (first
            | (go_at_call 26; go_must (refine HSN.mono ?_; rintro e w5 ⟨rfl, hc5⟩; have HT5 := hid (HT3.out.call hc5); clear HSN hc5))
            | fail)
          have hKe := HKe.out
          have := HLT.out
          have h1 := HG.out
          have h2 := hKe.gn
          have h3 := hKe.gw
          have h4 := hKe.go
          exact ⟨⟨k + 1, _, _, rfl, by omega, by go_num, ⟨lb, db, ρ, ovv, HT5.out⟩, hKe.tk, by simp only; omega, by simp only; omega, by simp only; omega⟩, by simp [intOf]; omega⟩
        · cases e
      · go_wp2_with fail
        go_ret
        exact ⟨rfl, HE.out.2.1⟩
    · have hi1 : ¬ (k : Int) < (m : Int) := by omega
      have hch := hF.chg
      obtain ⟨lb, db, ρ, ov, hT⟩ := hF
      have HSN := sound_any hT
      have HCH := hid hch
      clear hT hK hch
      go_wp2_with (first
        | (go_at_call 26; go_must (refine HSN.mono ?_; rintro e w5 ⟨rfl, hc5⟩; have HC5 := hid (HCH.out.tr hc5); clear HSN hc5))
        | fail)
      go_ret
      exact ⟨rfl, HC5.out⟩

end Go.Proofs.YtlkmfhpnofpjdaaGreat
