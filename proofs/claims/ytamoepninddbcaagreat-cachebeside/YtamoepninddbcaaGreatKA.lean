/-
  The document's cache in memory.
-/
import Derived.Shelf.SlicesE.DeleteFunc
import Derived.Test.YtamoepninddbcaaGreatDiskQ
import Derived.Test.YtamoepninddbcaaGreatCTagP2
namespace Go.Proofs.YtamoepninddbcaaGreat
open Go.RowKit Go.Shelf Go.Sort Go.Lib

/-- Numbers that are ints. -/
abbrev SI := { x : Int // I64 x }
instance : Inhabited SI := ⟨⟨0, by unfold I64; omega⟩⟩
def encS (x : SI) : Value := .int .i64 x.1
open Classical in
noncomputable def toS (x : Int) : SI := if h : I64 x then ⟨x, h⟩ else default
theorem toS_val {x : Int} (h : I64 x) : (toS x).1 = x := by unfold toS; rw [dif_pos h]
theorem map_toS {l : List Int} (h : ∀ x, x ∈ l → I64 x) : (l.map toS).map (·.1) = l := by
  rw [List.map_map]
  conv => rhs; rw [← List.map_id l]
  exact List.map_congr_left fun x hx => toS_val (h x hx)
theorem putRow_sub (w : World) (g : Nat) (d : Array SI) : putRow encS w g 0 d = putRow (Value.int .i64) w g 0 (d.map (·.1)) := by
  unfold putRow
  congr 1
  funext c
  unfold putCells
  congr 1
  funext k x
  rw [Array.size_map]
  by_cases h : 0 ≤ k ∧ k < 0 + d.size
  · rw [if_pos h, if_pos h]
    have h1 : k - 0 < d.size := by omega
    rw [getElem!_pos d _ h1, getElem!_pos (d.map (·.1)) _ (by simpa using h1)]
    simp [encS]
  · rw [if_neg h, if_neg h]
theorem chg_grow (w : World) (os : Array Obj) (ks : Nat → Prop) : Chg w (grow w os) ks := by
  have h := below_grown w 0 os
  exact ⟨rfl, rfl, rfl, h.size, fun k hk _ => h.block k hk⟩
theorem sortWorld_chg (w : World) (blk n : Nat) (dk : Array SI) (os : Array Obj) : Chg w (sortWorld encS w blk 0 n dk os) (· = blk) := by
  have h1 : Chg w (putRow encS (Sort.ahead w n) blk 0 dk) (· = blk) := putRow_chg dk
  exact h1.trans (chg_grow _ os No) (fun _ _ e => e) (fun _ _ e => e.elim)

variable {w : World} {c p g n : Nat} {ρ : Nat → Option Role} {z : CSt}
open Classical in
/-- Is something to land ahead of it? -/
noncomputable def notFree (z : CSt) (x : SI) : Bool := !decide (FreeE z.E x.1)
set_option maxHeartbeats 1000000 in
theorem eligC_any (x : SI) (bx : Nat) (h : IsC w c p g n ρ z) (hb : w.cell? ⟨bx, 0, none⟩ = some (.pointer (some ⟨c, 0, none⟩))) : Calls Tryz.prog 90 #[encS x, .pointer (some ⟨bx, 0, none⟩)] w fun e w' => e = .returned (.bool (notFree z x)) ∧ w = w' := by
  obtain ⟨gp, mb, go, tv, lv, h⟩ := h
  have k1 := h.c1
  have HF := free_any x.1 h.gr x.2
  have HE : Hid (∀ r : Bool, (r = true ↔ ∀ a, ¬ z.E a x.1) → notFree z x = !r) := fun r hr => by
    unfold notFree
    cases r
    · have hf : ¬ FreeE z.E x.1 := fun k => by have := hr.2 k; cases this
      simp [hf]
    · have hf : FreeE z.E x.1 := hr.1 rfl
      simp [hf]
  unfold encS
  clear h
  go_enter Tryz.func90, Tryz.ntmps90
  go_wp2_with (first
    | (go_at_call 62; go_must (refine HF.mono ?_; rintro e w1 ⟨r, rfl, hr, rfl⟩; have HR := hid (HE.out r hr); clear HF hr))
    | fail)
  go_ret
  exact ⟨D.ret_bool HR.out.symm, rfl⟩

set_option maxHeartbeats 1000000 in
theorem idx_nil (a : Option Addr) (ca : Nat) (fv : Value) (w : World) : Calls Tryz.prog 104 #[.slice a 0 ca, fv] w fun e w' => e = .returned (.int .i64 (-1)) ∧ w = w' := by
  go_enter Tryz.func104, Tryz.ntmps104
  go_wp2_with fail
  go_loopw [5, 8] (fun _ i wr => i = .int .i64 0 ∧ w = wr) (fun _ _ _ => 0)
  case atStart => exact ⟨rfl, rfl⟩
  case round =>
    obtain ⟨rfl, rfl⟩ := hrel
    go_wp2_with fail
    go_ret
    exact ⟨rfl, rfl⟩
set_option maxHeartbeats 1000000 in
theorem delf_nil (a : Option Addr) (ca : Nat) (fv : Value) (w : World) : Calls Tryz.prog 89 #[.slice a 0 ca, fv] w fun e w' => e = .returned (.slice a 0 ca) ∧ w = w' := by
  have H := idx_nil a ca fv w
  go_enter Tryz.func89, Tryz.ntmps89
  go_wp2_with (first
    | (go_at_call 104; go_must (refine H.mono ?_; rintro e w1 ⟨rfl, rfl⟩; clear H))
    | fail)
  go_ret
  exact ⟨rfl, rfl⟩
theorem drew0 (w : World) : w = w.drewN 0 := rfl
set_option maxRecDepth 100000 in
set_option maxHeartbeats 1000000 in
theorem delf_ints (bx : Nat) (base : Nat) (v : Value) (l : List Int) (hl : ∀ x, x ∈ l → I64 x) (hn : l.length ≤ 4096) (h : IsC w c p g n ρ z) (hb : w.cell? ⟨bx, 0, none⟩ = some (.pointer (some ⟨c, 0, none⟩))) (hbx : bx < w.heap.size) (hI : Ints w base v l) (hown : ∀ k, v.ownBlock = some k → ¬ Own ρ k ∧ k ≠ bx) :
    Calls Tryz.prog 89 #[v, .func (.func 90) #[] #[.pointer (some ⟨bx, 0, none⟩)]] w fun e w' => ∃ v', e = .returned v' ∧ Ints w' base v' (l.filter fun x => !notFree z (toS x)) ∧ Chg w w' (fun k => v.ownBlock = some k) := by
  have hpred : ∀ (W : World) (x : SI), IsC W c p g n ρ z → W.cell? ⟨bx, 0, none⟩ = some (.pointer (some ⟨c, 0, none⟩)) → FnGives Tryz.prog 90 #[.pointer (some ⟨bx, 0, none⟩)] #[encS x] (.bool (notFree z x)) W := fun W x hW hc => by
    refine (eligC_any x bx hW hc).mono ?_
    rintro e w' ⟨rfl, rfl⟩
    exact ⟨rfl, 0, rfl⟩
  rcases hI.2 with ⟨rfl, h0⟩ | ⟨blk, cap, cur, rfl, hge, hbk, h1, h2, h3, h4⟩
  · have : l = [] := List.eq_nil_of_length_eq_zero h0
    subst this
    refine (delf_nil none 0 _ w).mono ?_
    rintro e w' ⟨rfl, rfl⟩
    exact ⟨_, rfl, World.ownsRow_nil _ _ _ _, Chg.refl _ _⟩
  · have hO := hown blk rfl
    have hd : (l.map toS).toArray.size = l.length := by simp
    have hmv : (l.map toS).map encS = l.map (Value.int .i64) := by
      rw [List.map_map]
      refine List.map_congr_left fun x hx => ?_
      show Value.int .i64 (toS x).1 = _
      rw [toS_val (hl x hx)]
    have hH : Holds encS w blk 0 (l.map toS).toArray := row_holds hbk (by rw [hmv, List.length_map, ← h4, Nat.mul_one])
    have hp : PredAt Tryz.prog 90 #[.pointer (some ⟨bx, 0, none⟩)] encS (notFree z) w := fun W x hB => hpred W x (h.call (Chg.of_below hB No)) (cell_keep hb (Chg.of_below hB No) hbx (fun e => e))
    have hpo : PredOver Tryz.prog 90 #[.pointer (some ⟨bx, 0, none⟩)] encS (notFree z) blk 0 (l.map toS).toArray.size w := fun k os dk x _ => hpred _ x (h.keep (sortWorld_chg w blk k dk os) (fun j hj e => hO.1 (by rw [← e]; exact hj))) (cell_keep hb (sortWorld_chg w blk k dk os) hbx (fun e => hO.2 e.symm))
    have hc := AnyE.slices_DeleteFunc layDelF encS (fun _ => rfl) (notFree z) 90 #[.pointer (some ⟨bx, 0, none⟩)] (enters_of Tryz.func90 (by kernel_rfl) rfl) default Tryz.zeroValue3 blk 0 cap (l.map toS).toArray w hp hpo hH (by rw [hd]; omega) (by rw [hd]; exact h1)
    change Calls Tryz.prog 89 _ _ _ at hc
    rw [hd] at hc
    refine hc.mono ?_
    rintro e w' ⟨rfl, q, rfl⟩
    have hfl : ((l.map toS).filter fun x => !notFree z x).map (·.1) = l.filter fun x => !notFree z (toS x) := by
      rw [List.filter_map, List.map_map]
      conv => rhs; rw [← List.map_id (l.filter fun x => !notFree z (toS x))]
      exact List.map_congr_left fun x hx => toS_val (hl x (List.mem_filter.1 hx).1)
    have hfn : ((l.map toS).filter fun x => !notFree z x).length = (l.filter fun x => !notFree z (toS x)).length := by rw [← hfl, List.length_map]
    have hle : (l.filter fun x => !notFree z (toS x)).length ≤ l.length := List.length_filter_le _ _
    have hp2 := ints_put (w := w) (q := q) (l.filter fun x => !notFree z (toS x)) (List.replicate (l.length - (l.filter fun x => !notFree z (toS x)).length) 0) hge hbk (by rw [List.length_replicate]; omega) h2 h3
    refine ⟨_, rfl, ?_, (putRow_chg _).mono fun j _ e => by rw [e]; rfl⟩
    rw [putRow_sub]
    have e2 : (((l.map toS).filter fun x => !notFree z x) ++ List.replicate (l.length - ((l.map toS).filter fun x => !notFree z x).length) default).toArray.map (fun y : SI => y.1) = ((l.filter fun x => !notFree z (toS x)) ++ List.replicate (l.length - (l.filter fun x => !notFree z (toS x)).length) 0).toArray := by
      rw [List.map_toArray, List.map_append, hfl, hfn, List.map_replicate]
      rfl
    have e3 := e2
    rw [show (fun y : SI => y.1) = (·.1) from rfl] at e3
    rw [e3, hfn]
    exact hp2

open Classical in
theorem filter_secs (z : CSt) : ((secs z.dirty).filter fun x => !notFree z (toS x)) = secs fun x => z.dirty x ∧ FreeE z.E x := by
  refine rising_one _ _ ((secs_up _).filter _) (secs_up _) fun x => ?_
  rw [List.mem_filter, secs_mem, secs_mem]
  have key : Sec x → ((!notFree z (toS x)) = true ↔ FreeE z.E x) := fun hs => by
    unfold notFree
    rw [toS_val ⟨by have := hs.1; omega, by have := hs.2; omega⟩]
    simp
  constructor
  · rintro ⟨⟨h1, h2⟩, h3⟩
    exact ⟨h1, h2, (key h1).1 h3⟩
  · rintro ⟨h1, h2, h3⟩
    exact ⟨⟨h1, h2⟩, (key h1).2 h3⟩
set_option maxRecDepth 100000 in
set_option maxHeartbeats 1000000 in
theorem elig_any (h : IsC w c p g n ρ z) : Calls Tryz.prog 47 #[.pointer (some ⟨c, 0, none⟩)] w fun e w' => ∃ v, e = .returned v ∧ Ints w' w.heap.size v (secs fun x => z.dirty x ∧ FreeE z.E x) ∧ Chg w w' No := by
  have hc1 : Chg w (w.alloc (.cells #[.pointer (some ⟨c, 0, none⟩)] 31)) No := Chg.alloc _ _ _
  have HD := dirty_any (h.call hc1)
  have HC := hid hc1
  have HH := hid h
  have hk : (w.alloc (.cells #[.pointer (some ⟨c, 0, none⟩)] 31)).cell? ⟨w.heap.size, 0, none⟩ = some (.pointer (some ⟨c, 0, none⟩)) := by rw [cell_of_row _ _ _ _ _ _ (heap_alloc_new _ _)]; rfl
  have HK := hid hk
  clear hc1 h
  go_enter Tryz.func47, Tryz.ntmps47
  go_wp2_with (first
    | (go_at_call 22; go_must (refine HD.mono ?_; rintro e w1 ⟨v, rfl, hI, hc2⟩; have HI := hid hI; have HC2 := hid hc2; have HDF := delf_ints (z := z) (ρ := ρ) (n := n) (p := p) (g := g) (c := c) w.heap.size _ v (secs z.dirty) (fun x hx => by obtain ⟨h1, h2⟩ := (secs_mem.1 hx).1; exact ⟨by omega, by omega⟩) (secs_len _) (HH.out.call (HC.out.tr hc2)) (cell_keep HK.out hc2 (by simp) (fun e => e)) (by have := hc2.size; simp at this; omega) hI (fun k hk => by have h1 := (row_ge hI hk).1; simp at h1; exact ⟨fun ho => by have := HH.out.lt ho; omega, by omega⟩); clear HD hI hc2))
    | (go_at_call 89; go_must (refine HDF.mono ?_; rintro e w3 ⟨v3, rfl, hI3, hc3⟩))
    | fail)
  go_ret
  rw [filter_secs z] at hI3
  refine ⟨_, rfl, row_base hI3 (by simp), (HC.out.tr HC2.out).trans hc3 (fun _ _ e => e) (fun j hj e => ?_)⟩
  have := (row_ge HI.out e).1
  simp at this
  omega

end Go.Proofs.YtamoepninddbcaaGreat

namespace Go.Proofs.YtamoepninddbcaaGreat.D
open Go.RowKit
-- may lack

theorem rimageQ {r k n c : Nat} {X : Array Value} {d : St8} (w : World) (h : IsQ w r k n c X d) : Calls Tryz.prog 52 #[.pointer (some ⟨r, 0, none⟩)] w fun e w' => ∃ k2 c2 X2, e = .returned (.slice (some ⟨k2, 0, none⟩) n c2) ∧ w.heap.size ≤ k2 ∧ w'.heap[k2]? = some (.cells (SA d.S ++ X2) 47 (0, 0)) ∧ n ≤ c2 ∧ c2 ≤ maxLen ∧ X2.size = (c2 - n) * 128 ∧ Below w.heap.size w w' := by
  refine (rimage_any w h.isR).mono ?_
  rintro e w' ⟨u, rfl, ho, hb⟩
  rcases ho.2 with ⟨_, h0⟩ | ⟨g, cap, cur, rfl, hg, hc, hn, hm, hs, ht⟩
  · have := h.pos
    omega
  · refine ⟨g, cap, (cur.toList.drop (n * 128)).toArray, rfl, hg, ?_, hn, hm, ?_, hb⟩
    · rw [hc]
      congr 2
      apply Array.toList_inj.1
      rw [Array.toList_append]
      show cur.toList = d.S.map (Value.int .u8) ++ cur.toList.drop (n * 128)
      rw [← ht, List.take_append_drop]
    · rw [List.size_toArray, List.length_drop, Array.length_toList, hs, Nat.sub_mul]

end Go.Proofs.YtamoepninddbcaaGreat.D

namespace Go.Proofs.YtamoepninddbcaaGreat
open Go.RowKit

theorem flat_getK {α : Type} (f : α → List Value) (k : Nat) (hk : ∀ x, (f x).length = k) : ∀ {l : List α} {j i : Nat} {x : α}, l[j]? = some x → i < k → (l.flatMap f)[j * k + i]? = (f x)[i]?
  | [], _, _, _, h, _ => by cases h
  | e :: l, 0, i, x, h, hi => by
    cases h
    rw [List.flatMap_cons, Nat.zero_mul, Nat.zero_add, List.getElem?_append_left (by rw [hk]; exact hi)]
  | e :: l, j + 1, i, x, h, hi => by
    rw [List.flatMap_cons, List.getElem?_append_right (by rw [hk, Nat.add_mul]; omega), hk, show (j + 1) * k + i - k = j * k + i by rw [Nat.add_mul]; omega]
    exact flat_getK f k hk (l := l) h hi
theorem addr_add0 (g j : Nat) : (⟨g, 0, none⟩ : Addr).add j = ⟨g, j, none⟩ := by simp [Addr.add]; omega
/-- A cell of a row of structs. -/
theorem row_cellK {α : Type} {w : World} {B n k : Nat} {t : TypeId} {v : Value} {l : List α} (f : α → List Value) (hk : ∀ x, (f x).length = k) (h : w.ownsRow B t k v n (l.flatMap f)) (hn : n = l.length) {j : Nat} {x : α} (hj : l[j]? = some x) : ∃ g cp, v = .slice (some ⟨g, 0, none⟩) n cp ∧ B ≤ g ∧ (∃ A, w.heap[g]? = some (.cells A t (0, 0))) ∧ ∀ i, i < k → w.cell? ⟨g, j * k + i, none⟩ = (f x)[i]? := by
  rcases h.2 with ⟨e, e2⟩ | ⟨g, cap, cur, e, hb, hg, r⟩
  · have h0 : l = [] := List.length_eq_zero_iff.1 (by omega)
    rw [h0] at hj
    cases hj
  · refine ⟨g, cap, e, hb, ⟨cur, hg⟩, fun i hi => ?_⟩
    have hx := flat_getK f k hk hj hi
    cases hq : (f x)[i]? with
    | none => exact absurd hq (by rw [List.getElem?_eq_getElem (by rw [hk]; exact hi)]; exact fun c => by cases c)
    | some u =>
      rw [hq] at hx
      subst e
      have := World.ownsRow.cells h (g := g) rfl (j * k + i) _ hx
      rw [addr_add0] at this
      exact this
theorem row_shK {w : World} {B n k : Nat} {t : TypeId} {v : Value} {xs : List Value} (h : w.ownsRow B t k v n xs) : ∃ a cp, v = .slice a n cp := by
  rcases h.2 with ⟨e, e2⟩ | ⟨g, cap, cur, e, _⟩
  · exact ⟨none, 0, by rw [e, e2]⟩
  · exact ⟨_, cap, e⟩
/-- Whose a block of the document's cache is. -/
inductive RRole
  | me | dk | sr | it | wy | tag (x : Int) | tg
/-- A dirty sector's cells: its number, its bytes, its tags. -/
def itC (z : CSt) (tv : Int → Value) (x : Int) : List Value := .int .i64 x :: ((match z.P x with | some q => q.1 | none => D.Zs).map (Value.int .u8) ++ [tv x])
def RCC (rd : Nat) (v0 v1 lv : Value) (lo : Bool) : Array Value := #[.pointer (some ⟨rd, 0, none⟩), v0, v1, lv, .bool lo]
structure IsRC0 (w : World) (r rd rk n rc : Nat) (X : Array Value) (v0 v1 lv : Value) (tv : Int → Value) (W : List (Int × Int)) (ρ : Nat → Option RRole) (z : CSt) : Prop where
  me : w.heap[r]? = some (.cells (RCC rd v0 v1 lv z.lost) 91 (0, 0))
  dk : D.IsQ w rd rk n rc X z.d
  it : w.ownsRow 0 109 130 v0 (secs z.dirty).length ((secs z.dirty).flatMap (itC z tv))
  wy : Edgs w 0 v1 W
  tg : ∀ x q, z.P x = some q → Ints w 0 (tv x) q.2
  ld : Ints w 0 lv z.ld
  wd : W.Nodup
  we : ∀ a b, (a, b) ∈ W ↔ z.E a b
  rm : ρ r = some .me
  rd_ : ρ rd = some .dk
  rs : ρ rk = some .sr
  ri : ∀ k, v0.ownBlock = some k → ρ k = some .it
  rw_ : ∀ k, v1.ownBlock = some k → ρ k = some .wy
  rt : ∀ x k, z.dirty x → (tv x).ownBlock = some k → ρ k = some (.tag x)
  rl : ∀ k, lv.ownBlock = some k → ρ k = some .tg
  lt : ∀ k q, ρ k = some q → k < w.heap.size
  inv : CInv n z
def IsRC (w : World) (r rd n : Nat) (ρ : Nat → Option RRole) (z : CSt) : Prop := ∃ rk rc X v0 v1 lv tv W, IsRC0 w r rd rk n rc X v0 v1 lv tv W ρ z
def OwnR (ρ : Nat → Option RRole) (k : Nat) : Prop := ∃ q, ρ k = some q
theorem ownR_not {ρ : Nat → Option RRole} {k j : Nat} {q s : RRole} (h : ρ k = some q) (h2 : ρ j = some s) (hne : q ≠ s) : k ≠ j := fun e => by
  subst e
  rw [h] at h2
  cases h2
  exact hne rfl
section
variable {w w' : World} {r rd rk n rc : Nat} {X : Array Value} {v0 v1 lv : Value} {tv : Int → Value} {W : List (Int × Int)} {ρ : Nat → Option RRole} {z : CSt}
theorem isQ_keep {d : D.St8} {ks : Nat → Prop} (h : D.IsQ w rd rk n rc X d) (hc : Chg w w' ks) (hp : ¬ ks rd) (hg : ¬ ks rk) : D.IsQ w' rd rk n rc X d :=
  ⟨hc.keep h.me hp, hc.keep h.row hg, h.len, h.pos, h.top, h.le, h.big, h.sz⟩
theorem IsRC0.keep {ks : Nat → Prop} (h : IsRC0 w r rd rk n rc X v0 v1 lv tv W ρ z) (hc : Chg w w' ks) (hn : ∀ k, OwnR ρ k → ¬ ks k) : IsRC0 w' r rd rk n rc X v0 v1 lv tv W ρ z :=
  ⟨hc.keep h.me (hn r ⟨_, h.rm⟩), isQ_keep h.dk hc (hn rd ⟨_, h.rd_⟩) (hn rk ⟨_, h.rs⟩), row_keep h.it hc fun k hk => hn k ⟨_, h.ri k hk⟩, row_keep h.wy hc fun k hk => hn k ⟨_, h.rw_ k hk⟩,
    fun x q hx => row_keep (h.tg x q hx) hc fun k hk => hn k ⟨_, h.rt x k (by unfold CSt.dirty; rw [hx]; rfl) hk⟩, row_keep h.ld hc fun k hk => hn k ⟨_, h.rl k hk⟩,
    h.wd, h.we, h.rm, h.rd_, h.rs, h.ri, h.rw_, h.rt, h.rl, fun k q hk => Nat.lt_of_lt_of_le (h.lt k q hk) hc.size, h.inv⟩
theorem IsRC0.call (h : IsRC0 w r rd rk n rc X v0 v1 lv tv W ρ z) (hc : Chg w w' No) : IsRC0 w' r rd rk n rc X v0 v1 lv tv W ρ z := h.keep hc fun _ _ e => e
theorem IsRC.keep {ks : Nat → Prop} (h : IsRC w r rd n ρ z) (hc : Chg w w' ks) (hn : ∀ k, OwnR ρ k → ¬ ks k) : IsRC w' r rd n ρ z := by
  obtain ⟨rk, rc, X, v0, v1, lv, tv, W, h⟩ := h
  exact ⟨rk, rc, X, v0, v1, lv, tv, W, h.keep hc hn⟩
theorem IsRC.call (h : IsRC w r rd n ρ z) (hc : Chg w w' No) : IsRC w' r rd n ρ z := h.keep hc fun _ _ e => e
theorem IsRC.inv (h : IsRC w r rd n ρ z) : CInv n z := let ⟨_, _, _, _, _, _, _, _, h⟩ := h; h.inv
theorem IsRC0.c0 (h : IsRC0 w r rd rk n rc X v0 v1 lv tv W ρ z) : w.cell? ⟨r, 0, none⟩ = some (.pointer (some ⟨rd, 0, none⟩)) := by rw [cell_of_row _ _ _ _ _ _ h.me]; rfl
theorem IsRC0.c1 (h : IsRC0 w r rd rk n rc X v0 v1 lv tv W ρ z) : w.cell? ⟨r, 1, none⟩ = some v0 := by rw [cell_of_row _ _ _ _ _ _ h.me]; rfl
theorem IsRC0.c2 (h : IsRC0 w r rd rk n rc X v0 v1 lv tv W ρ z) : w.cell? ⟨r, 2, none⟩ = some v1 := by rw [cell_of_row _ _ _ _ _ _ h.me]; rfl
theorem IsRC0.c3 (h : IsRC0 w r rd rk n rc X v0 v1 lv tv W ρ z) : w.cell? ⟨r, 3, none⟩ = some lv := by rw [cell_of_row _ _ _ _ _ _ h.me]; rfl
theorem IsRC0.c4 (h : IsRC0 w r rd rk n rc X v0 v1 lv tv W ρ z) : w.cell? ⟨r, 4, none⟩ = some (.bool z.lost) := by rw [cell_of_row _ _ _ _ _ _ h.me]; rfl
theorem itC_len (hi : CInv n z) (x : Int) : (itC z tv x).length = 130 := by
  unfold itC
  cases hq : z.P x with
  | none => simp [D.Zs_len]
  | some q => simp [hi.ln x q hq]
/-- A dirty sector in the list. -/
theorem IsRC0.item (h : IsRC0 w r rd rk n rc X v0 v1 lv tv W ρ z) {j : Nat} {x : Int} (hj : (secs z.dirty)[j]? = some x) : ∃ g cp, v0 = .slice (some ⟨g, 0, none⟩) (secs z.dirty).length cp ∧ (∃ A, w.heap[g]? = some (.cells A 109 (0, 0))) ∧ w.cell? ⟨g, j * 130, none⟩ = some (.int .i64 x) ∧ ∀ i, i < 130 → w.cell? ⟨g, j * 130 + i, none⟩ = (itC z tv x)[i]? := by
  obtain ⟨g, cp, h1, _, h3, h4⟩ := row_cellK (itC z tv) (itC_len h.inv) h.it rfl hj
  exact ⟨g, cp, h1, h3, h4 0 (by decide), h4⟩
theorem cellsE_flat : ∀ l : List (Int × Int), cellsE l = l.flatMap fun e => [Value.int .i64 e.1, .int .i64 e.2]
  | [] => rfl
  | x :: l => by
    rw [List.flatMap_cons, ← cellsE_flat l]
    rfl
/-- An edge in the list. -/
theorem IsRC0.edge (h : IsRC0 w r rd rk n rc X v0 v1 lv tv W ρ z) {j : Nat} {e : Int × Int} (hj : W[j]? = some e) : ∃ g cp, v1 = .slice (some ⟨g, 0, none⟩) W.length cp ∧ (∃ A, w.heap[g]? = some (.cells A 73 (0, 0))) ∧ w.cell? ⟨g, j * 2, none⟩ = some (.int .i64 e.1) ∧ w.cell? ⟨g, j * 2 + 1, none⟩ = some (.int .i64 e.2) := by
  have hw : w.ownsRow 0 73 2 v1 W.length (W.flatMap fun e => [Value.int .i64 e.1, .int .i64 e.2]) := by rw [← cellsE_flat]; exact h.wy
  obtain ⟨g, cp, h1, _, h3, h4⟩ := row_cellK (fun e : Int × Int => [Value.int .i64 e.1, .int .i64 e.2]) (fun _ => rfl) hw rfl hj
  exact ⟨g, cp, h1, h3, h4 0 (by decide), h4 1 (by decide)⟩
/-- What a call of it leaves. -/
def RPost (w w1 : World) (r rd n : Nat) (ρ : Nat → Option RRole) (z : CSt) : Prop := ∃ ρ', IsRC w1 r rd n ρ' z ∧ (∀ k, OwnR ρ' k → OwnR ρ k ∨ w.heap.size ≤ k) ∧ Chg w w1 (OwnR ρ)
theorem RPost.same (h : IsRC w r rd n ρ z) (hc : Chg w w' No) : RPost w w' r rd n ρ z := ⟨ρ, h.call hc, fun _ k => .inl k, hc.mono fun _ _ e => e.elim⟩
end
end Go.Proofs.YtamoepninddbcaaGreat
