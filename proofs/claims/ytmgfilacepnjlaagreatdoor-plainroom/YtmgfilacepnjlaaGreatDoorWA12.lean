/-
 package plain, as functions: room.
-/
import Derived.Test.YtmgfilacepnjlaaGreatDoorWA9
namespace Go.Proofs.YtmgfilacepnjlaaGreatDoor
open Go.RowKit

theorem nodup_le {α : Type} [DecidableEq α] : ∀ (m l : List α), l.Nodup → (∀ x ∈ l, x ∈ m) → l.length ≤ m.length
 | [], l, _, h => by
  cases l with
  | nil => exact Nat.le_refl _
  | cons x l => exact absurd (h x (List.mem_cons_self ..)) (by simp)
 | y :: m, l, hn, h => by
  have h1 : (l.erase y).Nodup := hn.erase y
  have h2 := nodup_le m (l.erase y) h1 (fun x hx => by
   have hx' := (hn.mem_erase_iff).1 hx
   rcases List.mem_cons.1 (h x hx'.2) with e | e
   ·exact absurd e hx'.1
   ·exact e)
  have h3 : l.length ≤ (l.erase y).length + 1 := by
   rw [List.length_erase]
   split <;> omega
  simp only [List.length_cons]
  omega
def lets : List ByteArray := [⟨#[97]⟩, ⟨#[98]⟩, ⟨#[99]⟩, ⟨#[100]⟩, ⟨#[101]⟩, ⟨#[102]⟩, ⟨#[103]⟩]
def PL (x : Nd) : Prop := ∀ t, x.nm t ≠ none → t ∈ lets
def AllL (s : PSt) : Prop := ∀ i x, s.nd i = some x → PL x
theorem AllL.put {s : PSt} {i : Int} {x : Nd} (h : AllL s) (hx : PL x) : AllL (s.put i x) := fun j y hy => by
 by_cases e : j = i
 ·rw [e, PSt.put_at] at hy; cases hy; exact hx
 ·rw [PSt.put_ne _ _ e] at hy; exact h j y hy
theorem AllL.del {s : PSt} {i : Int} (h : AllL s) : AllL (s.del i) := fun j y hy => by
 by_cases e : j = i
 ·rw [e, PSt.del_at] at hy; cases hy
 ·rw [PSt.del_ne _ e] at hy; exact h j y hy
theorem AllL.lose {s : PSt} {i : Int} {x : Nd} (h : AllL s) (hx : PL x) : AllL (loseS s i x) := by
 unfold loseS
 by_cases e : x.links = 1
 ·rw [if_pos e]; exact h.del
 ·rw [if_neg e]; exact h.put hx
theorem PL.ent {x : Nd} {k : Nat} {t : ByteArray} {i : Int} (h : PL x) (ht : t ∈ lets) : PL (entN x k t i) := fun u hu => by
 have hu : (if u = t then some (k : Int) else x.nm u) ≠ none := hu
 by_cases e : u = t
 ·rw [e]; exact ht
 ·rw [if_neg e] at hu; exact h u hu
theorem PL.lea {x : Nd} {k : Nat} {t : ByteArray} (h : PL x) : PL (leaN x k t) := fun u hu => by
 have hu : (if u = t then none else x.nm u) ≠ none := hu
 by_cases e : u = t
 ·rw [if_pos e] at hu; exact absurd rfl hu
 ·rw [if_neg e] at hu; exact h u hu
theorem PL.old {x : Nd} {k : Nat} {t : ByteArray} {i : Int} (h : PL x) (ht : t ∈ lets) : PL (entO x k t i) := PL.ent (x := x) (k := k) (i := i) h ht
theorem PL.new (kind made : Int) : PL (newNd kind made) := fun _ h => absurd rfl h
theorem make_all {s : PSt} {ls : List ByteArray} {kind made : Int} (h : AllL s) (hn : lastN ls ∈ lets) : AllL (makeOp s ls kind made).1 := by
 unfold makeOp
 split
 ·exact h
 ·split
  ·exact h
  ·next x hx =>
   repeat' split
   all_goals first | exact h | exact (h.put (PL.new _ _)).put ((h _ x hx).ent hn)
theorem link_all {s : PSt} {ls ts : List ByteArray} (h : AllL s) (hn : lastN ts ∈ lets) : AllL (linkOp s ls ts).1 := by
 unfold linkOp
 split
 ·exact h
 ·split
  ·exact h
  ·split
   ·next x y hx hy =>
    repeat' split
    all_goals first | exact h | exact (h.put (x := { y with links := y.links + 1 }) (h _ y hy)).put ((h _ x hx).ent hn)
   ·exact h
theorem unlink_all {s : PSt} {ls : List ByteArray} (h : AllL s) : AllL (unlinkOp s ls).1 := by
 unfold unlinkOp
 split
 ·exact h
 ·split
  ·exact h
  ·next x hx =>
   split
   ·exact h
   ·split
    ·exact h
    ·next y hy =>
     split
     ·exact h
     ·exact (h.put (h _ x hx).lea).lose (h _ y hy)
theorem rmdir_all {s : PSt} {ls : List ByteArray} (h : AllL s) : AllL (rmdirOp s ls).1 := by
 unfold rmdirOp
 split
 ·exact h
 ·split
  ·exact h
  ·next x hx =>
   split
   ·exact h
   ·split
    ·exact h
    ·next y hy =>
     split
     ·exact h
     ·split
      ·exact h
      ·exact (h.put (h _ x hx).lea).lose (h _ y hy)
theorem move_all' {s : PSt} {d1 d2 : Int} {n1 n2 : ByteArray} {x2 : Nd} {i : Int} (h : AllL s) (h2 : PL x2) (hn : n2 ∈ lets) : AllL (moveS s d1 d2 n1 n2 x2 i) := by
 unfold moveS
 have h1 := h.put (i := d2) (h2.ent (k := least0 x2.sl) (i := i) hn)
 split
 ·exact h
 ·next x hx => exact h1.put (h1 _ x hx).lea
theorem repl_all {s : PSt} {d1 d2 : Int} {n1 n2 : ByteArray} {x2 : Nd} {k2 : Nat} {i j : Int} (h : AllL s) (h2 : PL x2) (hn : n2 ∈ lets) : AllL (replS s d1 d2 n1 n2 x2 k2 i j) := by
 unfold replS
 have h1 := h.put (i := d2) (h2.old (k := k2) (i := i) hn)
 split
 ·exact h
 ·next x hx =>
  have h3 := h1.put (i := d1) (h1 _ x hx).lea (x := leaN x ((x.nm n1).getD 0).toNat n1)
  split
  ·exact h
  ·next y hy => exact h3.lose (h3 _ y hy)
theorem rename_all {s : PSt} {ls ts : List ByteArray} (h : AllL s) (hn : lastN ts ∈ lets) : AllL (renameOp s ls ts).1 := by
 unfold renameOp
 split
 ·exact h
 ·split
  ·exact h
  ·split
   ·next x1 x2 h1 h2 =>
    repeat' split
    all_goals first | exact h | exact move_all' h (h _ x2 h2) hn | exact repl_all h (h _ x2 h2) hn
   ·exact h
theorem at_all {s : PSt} {i : Int} {o : OpS} (h : AllL s) : AllL (atOp s i o).1 := by
 unfold atOp
 split
 ·exact h
 ·next x hx =>
  have hw : AllL (writeOp s i x o.off o.data).1 := by
   unfold writeOp
   repeat' split
   all_goals first | exact h | exact h.put (x := wroteM x (rowsN x) o.off.toNat o.data) (h _ x hx)
  have ht : AllL (truncOp s i x o.off).1 := by
   unfold truncOp
   split
   ·exact h
   ·exact h.put (fun t ht => h _ x hx t (by rw [(cut_facts x o.off).2.2.2.1] at ht; exact ht))
  repeat' split
  all_goals first | exact h | exact hw | exact ht
theorem doS_all {s : PSt} {o : OpS} (h : AllL s) (h1 : (splitR o.path.data.toList).2 = 0 → o.kind = 1 ∨ o.kind = 2 → lastN (namesOf o.path) ∈ lets) (h2 : (splitR o.tto.data.toList).2 = 0 → o.kind = 3 ∨ o.kind = 6 → lastN (namesOf o.tto) ∈ lets) : AllL (doS s o).1 := by
 unfold doS
 by_cases e0 : okOp o
 ·rw [if_neg (fun c => c e0)]
  by_cases e1 : o.kind = 12 ∨ o.kind = 14
  ·rw [if_pos e1]; exact h
  ·rw [if_neg e1]
   by_cases e2 : (splitR o.path.data.toList).2 = 0
   ·rw [if_neg (fun c => c e2)]
    by_cases e3 : (o.kind = 3 ∨ o.kind = 6) ∧ (splitR o.tto.data.toList).2 ≠ 0
    ·rw [if_pos e3]; exact h
    ·rw [if_neg e3]
     by_cases k1 : o.kind = 1
     ·rw [if_pos k1]; exact make_all h (h1 e2 (.inl k1))
     ·rw [if_neg k1]
      by_cases k2 : o.kind = 2
      ·rw [if_pos k2]; exact make_all h (h1 e2 (.inr k2))
      ·rw [if_neg k2]
       by_cases k3 : o.kind = 3
       ·rw [if_pos k3]; exact link_all h (h2 (Classical.byContradiction fun c => e3 ⟨.inl k3, c⟩) (.inl k3))
       ·rw [if_neg k3]
        by_cases k4 : o.kind = 4
        ·rw [if_pos k4]; exact unlink_all h
        ·rw [if_neg k4]
         by_cases k5 : o.kind = 5
         ·rw [if_pos k5]; exact rmdir_all h
         ·rw [if_neg k5]
          by_cases k6 : o.kind = 6
          ·rw [if_pos k6]; exact rename_all h (h2 (Classical.byContradiction fun c => e3 ⟨.inr k6, c⟩) (.inr k6))
          ·rw [if_neg k6]
           by_cases kw : (walkL s (namesOf o.path) 1).2 = 0
           ·rw [if_neg (fun c => c kw)]; exact at_all h
           ·rw [if_pos kw]; exact h
   ·rw [if_pos e2]; exact h
 ·rw [if_pos e0]; exact h
def TP (ls : List ByteArray) : ByteArray := ⟨(pathOf (ls.map (·.data.toList))).toArray⟩
theorem ba_ext {a b : ByteArray} (h : a.data.toList = b.data.toList) : a = b := by
 cases a; cases b
 congr 1
 exact Array.toList_inj.1 h
theorem TP_nil : TP [] = ⟨#[47]⟩ := rfl
theorem TP_data (ls : List ByteArray) : (TP ls).data.toList = pathOf (ls.map (·.data.toList)) := rfl
theorem ba_app (a b : ByteArray) : (a ++ b).data.toList = a.data.toList ++ b.data.toList := by
 rw [ByteArray.data_append, Array.toList_append]
theorem TP_ne {ls : List ByteArray} (h : ls ≠ []) (hn : ∀ t ∈ ls, NmOk t) : TP ls ≠ ⟨#[47]⟩ := fun e => by
 have h1 : (TP ls).data.toList.length = 1 := by rw [e]; rfl
 rw [TP_data, path_len, if_neg (by simpa using h)] at h1
 cases ls with
 | nil => exact h rfl
 | cons t ls =>
  rw [List.map_cons, sizes_cons] at h1
  have := hn t (List.mem_cons_self ..)
  unfold NmOk okName at this
  simp only [Bool.and_eq_true, decide_eq_true_eq] at this
  omega
theorem TP_bel {ls : List ByteArray} {n : ByteArray} (hn : ∀ t ∈ ls, NmOk t) : belN (TP ls) n = TP (ls ++ [n]) := by
 refine ba_ext ?_
 rw [TP_data, List.map_append, List.map_cons, List.map_nil, path_more]
 unfold belN
 by_cases h : ls = []
 ·rw [if_pos (by rw [h]; rfl), if_pos (by rw [h]; rfl), ba_app]
  rfl
 ·rw [if_neg (TP_ne h hn), if_neg (by simpa using h), ba_app, ba_app, TP_data, List.append_assoc]
  rfl
theorem TP_split {ls : List ByteArray} (hn : ∀ t ∈ ls, NmOk t) (hs : sizes (ls.map (·.data.toList)) ≤ 400) : (splitR (TP ls).data.toList).2 = 0 ∧ namesOf (TP ls) = ls := by
 have h := split_join (ls.map (·.data.toList)) (by
  rw [List.all_eq_true]
  intro x hx
  obtain ⟨t, ht, e⟩ := List.mem_map.1 hx
  rw [← e]
  exact hn t ht) hs
 rw [TP_data, h]
 refine ⟨rfl, ?_⟩
 unfold namesOf
 rw [TP_data, h, List.map_map]
 conv => rhs; rw [← List.map_id ls]
 exact List.map_congr_left fun t _ => ba_ext rfl
theorem lets_ok : ∀ t ∈ lets, NmOk t ∧ t.data.toList.length = 1 := by
 intro t ht
 simp only [lets, List.mem_cons, List.not_mem_nil, or_false] at ht
 rcases ht with rfl | rfl | rfl | rfl | rfl | rfl | rfl <;> exact ⟨by unfold NmOk; decide, rfl⟩
theorem walk_lets {s : PSt} (h : Inv s) (ha : AllL s) : ∀ (ls : List ByteArray) (i j : Int), walkL s ls i = (j, 0) → ∀ t ∈ ls, t ∈ lets
 | [], _, _, _, t, ht => by cases ht
 | n :: l, i, j, e, t, ht => by
  obtain ⟨k, ⟨x, hx, hf⟩, h2⟩ := (walk_iff h).1 e
  rcases List.mem_cons.1 ht with rfl | ht
  ·exact ha i x hx t ((find_iff t).1 (by rw [hf]; exact fun c => by cases c))
  ·exact walk_lets h ha l k j h2 t ht
theorem depth {s : PSt} (h : Inv s) (hr : Rank s) {ls : List ByteArray} {i j : Int} (e : walkL s ls i = (j, 0)) : (ls.length : Int) ≤ s.ino := by
 obtain ⟨r, hr⟩ := hr
 have key : ∀ (ls : List ByteArray) (i j : Int), walkL s ls i = (j, 0) → ∃ vs : List Int, vs.length = ls.length ∧ vs.Nodup ∧ ∀ v ∈ vs, r i < r v ∧ ∃ y, s.nd v = some y := fun ls => by
  induction ls with
  | nil => exact fun _ _ _ => ⟨[], rfl, List.nodup_nil, fun _ h => by cases h⟩
  | cons n l ih =>
   intro i j e
   obtain ⟨k, hE, h2⟩ := (walk_iff h).1 e
   obtain ⟨vs, h3, h4, h5⟩ := ih k j h2
   refine ⟨k :: vs, by rw [List.length_cons, List.length_cons, h3], List.nodup_cons.2 ⟨fun c => Nat.lt_irrefl _ (h5 k c).1, h4⟩, fun v hv => ?_⟩
   rcases List.mem_cons.1 hv with rfl | hv
   ·exact ⟨hr _ _ _ hE, (Ed.ref h hE).2⟩
   ·exact ⟨Nat.lt_trans (hr _ _ _ hE) (h5 v hv).1, (h5 v hv).2⟩
 obtain ⟨vs, h1, h2, h3⟩ := key ls i j e
 have hnum := h.num
 have := nodup_le ((List.range s.ino.toNat).map fun n : Nat => (n : Int) + 1) vs h2 (fun v hv => by
  obtain ⟨_, y, hy⟩ := h3 v hv
  have := h.rng v y hy
  exact List.mem_map.2 ⟨(v - 1).toNat, List.mem_range.2 (by omega), by omega⟩)
 rw [List.length_map, List.length_range] at this
 omega
theorem sizes_lets : ∀ {ls : List ByteArray}, (∀ t ∈ ls, t ∈ lets) → sizes (ls.map (·.data.toList)) = 2 * ls.length
 | [], _ => rfl
 | t :: ls, h => by
  rw [List.map_cons, sizes_cons, sizes_lets (fun u hu => h u (List.mem_cons_of_mem _ hu)), (lets_ok t (h t (List.mem_cons_self ..))).2, List.length_cons]
  omega
theorem path_ok {s : PSt} (h : Inv2 s) (ha : AllL s) (hi : s.ino ≤ 11) {ls : List ByteArray} {j : Int} (e : walkL s ls 1 = (j, 0)) : (splitR (TP ls).data.toList).2 = 0 ∧ namesOf (TP ls) = ls ∧ (∀ t ∈ ls, t ∈ lets) ∧ ls.length ≤ 11 := by
 have h1 := walk_lets h.inv ha ls 1 j e
 have h2 := depth h.inv h.rank e
 obtain ⟨h3, h4⟩ := TP_split (fun t ht => (lets_ok t (h1 t ht)).1) (by rw [sizes_lets h1]; omega)
 exact ⟨h3, h4, h1, by omega⟩
end Go.Proofs.YtmgfilacepnjlaaGreatDoor

namespace Go.Proofs.YtmgfilacepnjlaaGreatDoor
open Go.RowKit

def nmF (x : Nd) : List ByteArray := lets.filter fun t => (x.nm t).isSome
theorem nmF_names {x : Nd} (h : PL x) : namesL x = (nmF x).map (·.data.toList) := by
 refine namesL_is ⟨?_, fun t => ?_⟩
 ·have h0 : (lets.map (·.data.toList)).Pairwise (fun a b => a ≤ b ∧ a ≠ b) := by decide
  exact List.Pairwise.sublist (List.Sublist.map _ (List.filter_sublist)) h0
 ·constructor
  ·intro ht
   obtain ⟨u, hu, e⟩ := List.mem_map.1 ht
   have := (List.mem_filter.1 hu).2
   have e2 : (⟨t.toArray⟩ : ByteArray) = u := ba_ext (by rw [← e])
   rw [e2]
   intro c
   rw [c] at this
   cases this
  ·intro ht
   refine List.mem_map.2 ⟨⟨t.toArray⟩, List.mem_filter.2 ⟨h _ ht, ?_⟩, rfl⟩
   cases hq : x.nm ⟨t.toArray⟩ with
   | none => exact absurd hq ht
   | some k => rfl
theorem nmF_len (x : Nd) : (nmF x).length ≤ 7 := by
 have : (nmF x).length ≤ lets.length := List.length_filter_le _ _
 exact this
theorem nmF_mem {x : Nd} (h : PL x) {t : ByteArray} : t ∈ nmF x ↔ findN x t ≠ none := by
 rw [find_iff]
 constructor
 ·intro ht c
  have := (List.mem_filter.1 ht).2
  rw [c] at this
  cases this
 ·intro ht
  refine List.mem_filter.2 ⟨h _ ht, ?_⟩
  cases hq : x.nm t with
  | none => exact absurd hq ht
  | some k => rfl
theorem listS_names {s : PSt} {x : Nd} (h : PL x) : (listS s x).map (·.1) = nmF x := by
 unfold listS
 rw [nmF_names h, List.map_map, List.map_map]
 conv => rhs; rw [← List.map_id (nmF x)]
 exact List.map_congr_left fun t _ => ba_ext rfl
structure BF (s : PSt) (ps : List (List ByteArray)) (sn : List Int) (i : Nat) : Prop where
 ok : ∀ ls ∈ ps, ∃ j, walkL s ls 1 = (j, 0)
 nd : sn.Nodup
 in_ : ∀ j ∈ sn, ∃ y, s.nd j = some y
 cl : ∀ d ∈ sn, ∀ t j, Ed s d t j → ∃ ls ∈ ps, walkL s ls 1 = (j, 0)
 done : ∀ k, k < i → ∀ ls, ps[k]? = some ls → ∃ j ∈ sn, walkL s ls 1 = (j, 0)
 root : ∃ ls ∈ ps, walkL s ls 1 = (1, 0)
 few : ps.length ≤ 1 + 7 * sn.length
theorem BF.begin (s : PSt) : BF s [[]] [] 0 :=
 ⟨fun ls h => ⟨1, by rw [List.mem_singleton.1 h]; rfl⟩, List.nodup_nil, (fun _ h => by cases h), (fun _ h => by cases h), fun k hk => absurd hk (Nat.not_lt_zero _), ⟨[], List.mem_singleton.2 rfl, rfl⟩, by simp⟩
theorem BF.known {s : PSt} {ps : List (List ByteArray)} {sn : List Int} {i : Nat} (h : BF s ps sn i) {ls : List ByteArray} {j : Int} (hp : ps[i]? = some ls) (hj : walkL s ls 1 = (j, 0)) (hs : j ∈ sn) : BF s ps sn (i + 1) :=
 ⟨h.ok, h.nd, h.in_, h.cl, fun k hk l hl => by
  by_cases e : k = i
  ·rw [e, hp] at hl; cases hl; exact ⟨j, hs, hj⟩
  ·exact h.done k (by omega) l hl, h.root, h.few⟩
theorem BF.more {s : PSt} {ps : List (List ByteArray)} {sn : List Int} {i : Nat} (h : BF s ps sn i) (hI : Inv s) (ha : AllL s) {ls : List ByteArray} {j : Int} {x : Nd} (hp : ps[i]? = some ls) (hj : walkL s ls 1 = (j, 0)) (hs : j ∉ sn) (hx : s.nd j = some x) : BF s (ps ++ (nmF x).map fun n => ls ++ [n]) (sn ++ [j]) (i + 1) := by
 have hil : i < ps.length := (List.getElem?_eq_some_iff.1 hp).1
 refine ⟨fun l hl => ?_, ?_, fun k hk => ?_, fun d hd t k hE => ?_, fun k hk l hl => ?_, ?_, ?_⟩
 ·rcases List.mem_append.1 hl with hl | hl
  ·exact h.ok l hl
  ·obtain ⟨n, hn, e⟩ := List.mem_map.1 hl
   obtain ⟨k, hk⟩ := Option.ne_none_iff_exists'.1 ((nmF_mem (ha j x hx)).1 hn)
   exact ⟨k, by rw [← e]; exact (walk_snoc hI).2 ⟨j, hj, x, hx, hk⟩⟩
 ·refine List.nodup_append.2 ⟨h.nd, by simp, fun a ha b hb => ?_⟩
  rw [List.mem_singleton.1 hb]
  intro c
  exact hs (c ▸ ha)
 ·rcases List.mem_append.1 hk with hk | hk
  ·exact h.in_ k hk
  ·rw [List.mem_singleton.1 hk]; exact ⟨x, hx⟩
 ·rcases List.mem_append.1 hd with hd | hd
  ·obtain ⟨l, h1, h2⟩ := h.cl d hd t k hE
   exact ⟨l, List.mem_append_left _ h1, h2⟩
  ·rw [List.mem_singleton.1 hd] at hE
   obtain ⟨x', h1, h2⟩ := hE
   rw [hx] at h1
   cases h1
   exact ⟨ls ++ [t], List.mem_append_right _ (List.mem_map.2 ⟨t, (nmF_mem (ha j x hx)).2 (by rw [h2]; exact fun c => by cases c), rfl⟩), (walk_snoc hI).2 ⟨j, hj, x, hx, h2⟩⟩
 ·rw [List.getElem?_append_left (by omega)] at hl
  by_cases e : k = i
  ·rw [e, hp] at hl; cases hl; exact ⟨j, List.mem_append_right _ (List.mem_singleton.2 rfl), hj⟩
  ·obtain ⟨m, h1, h2⟩ := h.done k (by omega) l hl
   exact ⟨m, List.mem_append_left _ h1, h2⟩
 ·obtain ⟨l, h1, h2⟩ := h.root
  exact ⟨l, List.mem_append_left _ h1, h2⟩
 ·have h1 := h.few
  have h2 := nmF_len x
  rw [List.length_append, List.length_map, List.length_append, List.length_singleton]
  omega
theorem BF.all {s : PSt} {ps : List (List ByteArray)} {sn : List Int} (h : BF s ps sn ps.length) (hI : Inv s) (hr : Rank s) {j : Int} {y : Nd} (hy : s.nd j = some y) : j ∈ sn := by
 have key : ∀ ls ∈ ps, ∀ j, walkL s ls 1 = (j, 0) → j ∈ sn := fun ls hl j hj => by
  obtain ⟨k, hk, e⟩ := List.mem_iff_getElem.1 hl
  obtain ⟨m, h1, h2⟩ := h.done k hk ls (by rw [List.getElem?_eq_getElem hk, e])
  rw [hj] at h2
  rw [(Prod.mk.inj h2).1]
  exact h1
 have all : ∀ ls : List ByteArray, ∀ j, walkL s ls 1 = (j, 0) → j ∈ sn := fun ls => by
  refine snoc_ind (P := fun ls => ∀ j, walkL s ls 1 = (j, 0) → j ∈ sn) (fun j hj => ?_) (fun a n ih j hj => ?_) ls
  ·obtain ⟨l, h1, h2⟩ := h.root
   rw [← walk_nil.1 hj]
   exact key l h1 1 h2
  ·obtain ⟨k, h1, h2⟩ := (walk_snoc hI).1 hj
   obtain ⟨l, h3, h4⟩ := h.cl k (ih k h1) n j h2
   exact key l h3 j h4
 obtain ⟨ls, hls⟩ := reach hI hr hy
 exact all ls j hls
noncomputable def sumC (s : PSt) : List Int → Nat
 | [] => 0
 | j :: l => sumC s l + (match s.nd j with | some x => cardN x | none => 0)
theorem sumC_snoc {s : PSt} {j : Int} {x : Nd} (hx : s.nd j = some x) : ∀ l : List Int, sumC s (l ++ [j]) = sumC s l + cardN x
 | [] => by
  show 0 + (match s.nd j with | some x => cardN x | none => 0) = 0 + cardN x
  rw [hx]
 | k :: l => by
  show sumC s (l ++ [j]) + _ = sumC s l + _ + _
  rw [sumC_snoc hx l]
  omega
theorem sumC_is {s : PSt} (h : Inv s) : ∀ l : List Int, l.Nodup → (∀ j ∈ l, ∃ y, s.nd j = some y) → sumN s (fun i => i ∈ l) 513 = sumC s l
 | [], _, _ => by
  have z : ∀ k : Nat, sumN s (fun i => i ∈ ([] : List Int)) k = 0 := fun k => by
   induction k with
   | zero => rfl
   | succ k ih => unfold sumN; rw [ih, if_neg (by simp)]
  exact z 513
 | j :: l, hn, hy => by
  obtain ⟨y, hj⟩ := hy j (List.mem_cons_self ..)
  have hr := h.rng j y hj
  have hnum := h.num
  have hn' := List.nodup_cons.1 hn
  have ih := sumC_is h l hn'.2 (fun k hk => hy k (List.mem_cons_of_mem _ hk))
  obtain ⟨m, hm⟩ : ∃ m : Nat, (m : Int) = j := ⟨j.toNat, by omega⟩
  have e1 := sumN_put (s := s) (P := fun i => i ∈ l) (m := m) (x := y) (by rw [hm]; exact hj) (by rw [hm]; exact hn'.1) 513 (by omega)
  have e2 := sumN_congr (s := s) (P := fun i => i ∈ j :: l) (Q := fun i => i ∈ l ∨ i = (m : Int)) 513 (fun i _ => by rw [hm, List.mem_cons]; exact Or.comm)
  show _ = sumC s l + (match s.nd j with | some x => cardN x | none => 0)
  rw [e2, e1, ih, hj]
theorem BF.sums {s : PSt} {ps : List (List ByteArray)} {sn : List Int} (h : BF s ps sn ps.length) (hI : Inv s) (hr : Rank s) : sumC s sn = takenN s ∧ sn.length = nodesN s := by
 have hall : ∀ j, j ∈ sn ↔ s.nd j ≠ none := fun j => ⟨(fun hj => by obtain ⟨y, hy⟩ := h.in_ j hj; rw [hy]; exact (fun c => by cases c)), (fun hj => by
  obtain ⟨y, hy⟩ := Option.ne_none_iff_exists'.1 hj
  exact h.all hI hr hy)⟩
 refine ⟨?_, ?_⟩
 ·rw [← sumC_is hI sn h.nd h.in_]
  unfold takenN
  exact sumN_congr 513 fun i _ => hall i
 ·have hnum := hI.num
  unfold nodesN
  have e1 : (((List.range 513).filter fun i : Nat => (s.nd (i : Int)).isSome).map fun n : Nat => (n : Int)).Nodup := by
   have h1 : ((List.range 513).filter fun i : Nat => (s.nd (i : Int)).isSome).Nodup := List.Pairwise.filter _ List.nodup_range
   exact List.Pairwise.map _ (fun a b hab c => hab (by omega)) h1
  refine Nat.le_antisymm ?_ ?_
  ·have := nodup_le (((List.range 513).filter fun i : Nat => (s.nd (i : Int)).isSome).map fun n : Nat => (n : Int)) sn h.nd (fun j hj => by
    obtain ⟨y, hy⟩ := h.in_ j hj
    have := hI.rng j y hy
    refine List.mem_map.2 ⟨j.toNat, List.mem_filter.2 ⟨List.mem_range.2 (by omega), ?_⟩, by omega⟩
    rw [show ((j.toNat : Nat) : Int) = j by omega, hy]
    rfl)
   rw [List.length_map] at this
   exact this
  ·have := nodup_le sn _ e1 (fun j hj => by
    obtain ⟨n, hn, e⟩ := List.mem_map.1 hj
    rw [hall, ← e]
    have := (List.mem_filter.1 hn).2
    intro c
    rw [c] at this
    cases this)
   rw [List.length_map] at this
   exact this
theorem BF.len {s : PSt} {ps : List (List ByteArray)} {sn : List Int} {i : Nat} (h : BF s ps sn i) (hI : Inv s) (hi : s.ino ≤ 11) : sn.length ≤ 11 ∧ ps.length ≤ 78 := by
 have hnum := hI.num
 have h1 := nodup_le ((List.range s.ino.toNat).map fun n : Nat => (n : Int) + 1) sn h.nd (fun v hv => by
  obtain ⟨y, hy⟩ := h.in_ v hv
  have := hI.rng v y hy
  exact List.mem_map.2 ⟨(v - 1).toNat, List.mem_range.2 (by omega), by omega⟩)
 rw [List.length_map, List.length_range] at h1
 have := h.few
 omega
theorem BF.ask {s : PSt} (h : Inv2 s) (ha : AllL s) (hi : s.ino ≤ 11) {ls : List ByteArray} {j : Int} (hj : walkL s ls 1 = (j, 0)) : ∃ x, s.nd j = some x ∧ askS s 10 (TP ls) 0 = .stat j x ∧ (entA (askS s 11 (TP ls) 0)).map (fun e => belN (TP ls) e.1) = ((nmF x).map fun n => ls ++ [n]).map TP ∧ (TP ls).size ≤ 23 := by
 obtain ⟨h1, h2, h3, h4⟩ := path_ok h ha hi hj
 obtain ⟨x, hx⟩ := Inv.walk h.inv (ls := ls) (by rw [hj])
 rw [hj] at hx
 have hx : s.nd j = some x := hx
 have hN := h.inv.nd j x hx
 refine ⟨x, hx, ?_, ?_, ?_⟩
 ·rw [ask_eq s 10 _ 0 (.inl ⟨rfl, rfl⟩), if_neg (fun c => c h1), h2, hj]
  simp only
  rw [if_neg (fun c => c rfl), at_eq hx 10 _ 0 (.inl ⟨rfl, rfl⟩), if_pos rfl]
 ·rw [ask_eq s 11 _ 0 (.inr (.inl ⟨rfl, rfl⟩)), if_neg (fun c => c h1), h2, hj]
  simp only
  rw [if_neg (fun c => c rfl), at_eq hx 11 _ 0 (.inr (.inl ⟨rfl, rfl⟩)), if_neg (by decide), if_pos rfl]
  by_cases hk : x.kind = 2
  ·rw [if_pos hk]
   show (listS s x).map (fun e => belN (TP ls) e.1) = _
   have e : (listS s x).map (fun e => belN (TP ls) e.1) = ((listS s x).map (·.1)).map (fun n => belN (TP ls) n) := by rw [List.map_map]; rfl
   rw [e, listS_names (ha j x hx), List.map_map]
   refine List.map_congr_left fun n _ => TP_bel fun t ht => (lets_ok t (h3 t ht)).1
  ·rw [if_neg hk]
   have : nmF x = [] := List.filter_eq_nil_iff.2 fun t _ => by rw [(hN.file (by have := hN.kind; omega)).2 t]; simp
   rw [this]
   rfl
 ·have e1 : (TP ls).size = (TP ls).data.toList.length := by rw [Array.length_toList]; rfl
  rw [e1, TP_data, path_len]
  split
  ·omega
  ·rw [sizes_lets h3]; omega
end Go.Proofs.YtmgfilacepnjlaaGreatDoor

namespace Go.Proofs.YtmgfilacepnjlaaGreatDoor
open Go.RowKit

theorem countP_or (p q : Nat → Bool) : ∀ l : List Nat, l.countP (fun i => p i || q i) ≤ l.countP p + l.countP q
 | [] => Nat.le_refl _
 | x :: l => by
  have := countP_or p q l
  rw [List.countP_cons, List.countP_cons, List.countP_cons]
  cases p x <;> cases q x <;> simp <;> omega
theorem countP_add {p q r : Nat → Bool} (h1 : ∀ i, p i = true → r i = true) (h2 : ∀ i, q i = true → r i = true) (h3 : ∀ i, p i = true → q i = false) : ∀ l : List Nat, l.countP p + l.countP q ≤ l.countP r
 | [] => Nat.le_refl _
 | x :: l => by
  have := countP_add h1 h2 h3 l
  rw [List.countP_cons, List.countP_cons, List.countP_cons]
  have a1 := h1 x
  have a2 := h2 x
  have a3 := h3 x
  cases hp : p x <;> cases hq : q x <;> simp [hp, hq] at a1 a2 a3 ⊢ <;> simp_all <;> omega
theorem countP_mem (L : List Nat) (N : Nat) : (List.range N).countP (fun i => decide (i ∈ L)) ≤ L.length := by
 rw [List.countP_eq_length_filter]
 exact nodup_le L _ (List.Pairwise.filter _ List.nodup_range) fun x hx => of_decide_eq_true (List.mem_filter.1 hx).2
theorem countP_seg (m n N : Nat) (h : m + n < N) : n ≤ (List.range N).countP (fun i => decide (m < i ∧ i ≤ m + n)) := by
 rw [List.countP_eq_length_filter]
 have := nodup_le ((List.range N).filter fun i => decide (m < i ∧ i ≤ m + n)) (List.range' (m + 1) n) List.nodup_range' (fun x hx => by
  obtain ⟨i, hi, e⟩ := List.mem_range'.1 hx
  exact List.mem_filter.2 ⟨List.mem_range.2 (by omega), decide_eq_true ⟨by omega, by omega⟩⟩)
 rw [List.length_range'] at this
 exact this
theorem nums_mem {k i : Nat} (h : i ∈ numsOf k) : i = k ∨ i = 1068 ∨ i = 1069 ∨ (44 ≤ k ∧ i = 1070 + (k - 44) / 32) := by
 unfold numsOf at h
 by_cases c : 44 ≤ k
 ·rw [if_pos c] at h
  simp only [List.mem_cons, List.not_mem_nil, or_false] at h
  omega
 ·rw [if_neg c] at h
  by_cases c2 : 12 ≤ k
  ·rw [if_pos c2] at h
   simp only [List.mem_cons, List.not_mem_nil, or_false] at h
   omega
  ·rw [if_neg c2] at h
   simp only [List.mem_cons, List.not_mem_nil, or_false] at h
   omega
theorem nums_self (k : Nat) : k ∈ numsOf k := List.mem_cons_self ..
open Classical in
theorem cardQ_le {x : Nd} {a e : Nat} (h : a ≤ e) (h2 : e - a ≤ 31) : cardQ x a (e + 1) ≤ cardN x + (e - a + 1) + 4 := by
 have h1 : cardQ x a (e + 1) ≤ (List.range 1102).countP (fun i => talB x i || decide (i ∈ List.range' a (e - a + 1) ++ [1068, 1069, 1070 + (a - 44) / 32, 1070 + (e - 44) / 32])) := by
  unfold cardQ cardT
  refine List.countP_mono_left fun i _ hi => ?_
  rcases of_decide_eq_true hi with hi | ⟨k, k1, k2, k3⟩
  ·rw [Bool.or_eq_true]
   exact .inl (decide_eq_true hi)
  ·rw [Bool.or_eq_true]
   refine .inr (decide_eq_true ?_)
   rcases nums_mem k3 with e1 | e1 | e1 | ⟨e0, e1⟩
   ·exact List.mem_append_left _ (List.mem_range'.2 ⟨k - a, by omega, by omega⟩)
   ·exact List.mem_append_right _ (by simp [e1])
   ·exact List.mem_append_right _ (by simp [e1])
   ·have : (k - 44) / 32 = (a - 44) / 32 ∨ (k - 44) / 32 = (e - 44) / 32 := by omega
    refine List.mem_append_right _ ?_
    simp only [List.mem_cons, List.not_mem_nil, or_false]
    omega
 have h3 := countP_or (talB x) (fun i => decide (i ∈ List.range' a (e - a + 1) ++ [1068, 1069, 1070 + (a - 44) / 32, 1070 + (e - 44) / 32])) (List.range 1102)
 have h4 := countP_mem (List.range' a (e - a + 1) ++ [1068, 1069, 1070 + (a - 44) / 32, 1070 + (e - 44) / 32]) 1102
 rw [List.length_append, List.length_range'] at h4
 have h5 : cardN x = (List.range 1102).countP (talB x) := rfl
 simp only [List.length_cons, List.length_nil] at h4
 omega
open Classical in
theorem cardQ_ge {x : Nd} {a e m : Nat} (hN : NdOk x) (hf : x.kind = 1) (hm : m ≤ e) (he : e < 1068) (ha : a ≤ m + 1) (hb : ∀ k : Nat, m < k → x.blk (k : Int) = none) : cardN x + (e - m) ≤ cardQ x a (e + 1) := by
 have h1 : ∀ k : Nat, m < k → k ≤ e → ¬ TalP x k := fun k k1 k2 c => by
  rcases c with ⟨k', c1, c2⟩ | ⟨k', c1, _⟩
  ·rcases nums_mem c2 with e1 | e1 | e1 | ⟨_, e1⟩
   ·exact c1 (hb k' (by omega))
   ·omega
   ·omega
   ·omega
  ·rw [(hN.file hf).1] at c1
   exact absurd c1 (Nat.not_lt_zero _)
 have h2 := countP_add (p := talB x) (q := fun i => decide (m < i ∧ i ≤ m + (e - m))) (r := fun i => decide (TalQ x a (e + 1) i)) (fun i hi => decide_eq_true (.inl (of_decide_eq_true hi))) (fun i hi => by
  have := of_decide_eq_true hi
  exact decide_eq_true (.inr ⟨i, by omega, by omega, nums_self i⟩)) (fun i hi => decide_eq_false fun c => h1 i c.1 (by omega) (of_decide_eq_true hi)) (List.range 1102)
 have h3 := countP_seg m (e - m) 1102 (by omega)
 have h5 : cardN x = (List.range 1102).countP (talB x) := rfl
 have h6 : cardQ x a (e + 1) = (List.range 1102).countP (fun i => decide (TalQ x a (e + 1) i)) := rfl
 omega
theorem write_codes {s : PSt} (h : Inv2 s) {i : Int} {x : Nd} (hx : s.nd i = some x) (hf : x.kind = 1) {off : Int} {ds : List Int} (h0 : 0 ≤ off) (h1 : off ≤ 20299) (h2 : 0 < ds.length) (h3 : ds.length ≤ 3000) :
  ((off + ds.length - 1) / 128 - off / 128 + 1 + 4 ≤ s.data - (takenN s : Nat) → (writeOp s i x off ds).2 = 0) ∧ (s.data - (takenN s : Nat) < (off + ds.length - 1) / 128 - Int.tdiv (max (off - 1) (x.size - 1)) 128 → (writeOp s i x off ds).2 = 80) := by
 have hN := h.inv.nd i x hx
 have hq := h.q i x hx
 have htk := h.tak
 obtain ⟨o, ho⟩ : ∃ o : Nat, (o : Int) = off := ⟨off.toNat, by omega⟩
 have hd : ds ≠ [] := fun e => by rw [e] at h2; exact absurd h2 (Nat.not_lt_zero _)
 have e1 : (writeOp s i x off ds).2 = if roomB s x (off.toNat / 128) ((off.toNat + ds.length - 1) / 128 + 1) = true then 0 else 80 := by
  unfold writeOp
  rw [if_neg (by omega), if_neg hd]
  split <;> rfl
 rw [e1]
 have e2 : off.toNat = o := by omega
 rw [e2]
 obtain ⟨a, ha⟩ : ∃ a, a = o / 128 := ⟨_, rfl⟩
 obtain ⟨e, he⟩ : ∃ e, e = (o + ds.length - 1) / 128 := ⟨_, rfl⟩
 rw [← ha, ← he]
 have hr : roomB s x a (e + 1) = true ↔ (takenN s : Int) - (cardN x : Int) + (cardQ x a (e + 1) : Int) ≤ s.data := by unfold roomB; exact decide_eq_true_iff
 constructor
 ·intro h4
  have := cardQ_le (x := x) (a := a) (e := e) (by omega) (by omega)
  rw [if_pos (hr.2 (by omega))]
 ·intro h4
  have hs := hN.size
  obtain ⟨M, hM⟩ : ∃ M, M = max (off - 1) (x.size - 1) := ⟨_, rfl⟩
  rw [← hM] at h4
  have hM0 : -1 ≤ M ∧ off - 1 ≤ M ∧ x.size - 1 ≤ M := by omega
  obtain ⟨m, hm, hm2⟩ : ∃ m : Nat, (m : Int) = Int.tdiv M 128 ∧ M < 128 * (m : Int) + 128 ∧ (M = -1 → m = 0) := by
   by_cases c : M = -1
   ·exact ⟨0, by rw [c]; rfl, by omega, fun _ => rfl⟩
   ·refine ⟨(M / 128).toNat, ?_, by omega, fun c2 => absurd c2 c⟩
    rw [Int.tdiv_eq_ediv_of_nonneg (by omega)]
    omega
  rw [← hm] at h4
  have hme : m ≤ e := by omega
  have := cardQ_ge (x := x) (a := a) (e := e) (m := m) hN hf hme (by omega) (by omega) (fun k hk => by
   cases hb : x.blk (k : Int) with
   | none => rfl
   | some v =>
    have := hq.2 (k : Int) (by rw [hb]; exact fun c => by cases c)
    omega)
  rw [if_neg (fun c => by have := hr.1 c; omega)]
theorem walk_code (s : PSt) : ∀ (l : List ByteArray) (i : Int), (walkL s l i).2 = 0 ∨ (walkL s l i).2 = 110 ∨ (walkL s l i).2 = 113
 | [], _ => .inl rfl
 | n :: l, i => by
  cases hx : s.nd i with
  | none =>
   have e1 : walkL s (n :: l) i = (0, 110) := by show (match s.nd i with | none => _ | some x => _) = _; rw [hx]
   rw [e1]
   exact .inr (.inl rfl)
  | some x =>
   rw [walkL_step hx]
   by_cases c : x.kind = 2
   ·rw [if_pos c]
    cases findN x n with
    | none => exact .inr (.inl rfl)
    | some j => exact walk_code s l j
   ·rw [if_neg c]; exact .inr (.inr rfl)
theorem lastE_code (s : PSt) (ls : List ByteArray) : lastE s ls = 0 ∨ lastE s ls = 110 ∨ lastE s ls = 113 ∨ lastE s ls = 143 := by
 unfold lastE
 split
 ·exact .inr (.inr (.inr rfl))
 ·split
  ·split
   ·split
    ·exact .inl rfl
    ·exact .inr (.inr (.inl rfl))
   ·exact .inr (.inr (.inl rfl))
  ·rcases walk_code s ls.dropLast 1 with e | e | e <;> omega
theorem place_code (s : PSt) (x : Nd) : (placeL s x).2 = 0 ∨ (placeL s x).2 = 112 ∨ (placeL s x).2 = 80 := by
 unfold placeL
 split
 ·exact .inr (.inl rfl)
 ·split
  ·exact .inl rfl
  ·exact .inr (.inr rfl)
theorem split_code (l : List UInt8) : (splitR l).2 = 0 ∨ (splitR l).2 = 70 ∨ (splitR l).2 = 71 := by
 rcases split_err (l := l) with ⟨xs, e⟩ | e | e <;> rw [e]
 ·exact .inl rfl
 ·exact .inr (.inl rfl)
 ·exact .inr (.inr rfl)
set_option maxRecDepth 20000 in
theorem make_81 {s : PSt} {ls : List ByteArray} {kind made : Int} (h : codeA (makeOp s ls kind made).2 = 81) : (nodesN s : Int) = s.ino := by
 have h1 := lastE_code s ls
 unfold makeOp at h
 split at h
 ·have h : lastE s ls = 81 := h
  omega
 ·split at h
  ·cases h
  ·next x hx =>
   have h2 := place_code s x
   split at h
   ·cases h
   ·split at h
    ·assumption
    ·split at h
     ·obtain ⟨q, hq⟩ : ∃ q, q = (placeL s x).2 := ⟨_, rfl⟩
      rw [← hq] at h h2
      have h : q = 81 := h
      omega
     ·cases h
theorem link_81 {s : PSt} {ls ts : List ByteArray} : (linkOp s ls ts).2 ≠ 81 := fun h => by
 have h1 := lastE_code s ts
 have h0 := walk_code s ls 1
 unfold linkOp at h
 split at h
 ·have h : (walkL s ls 1).2 = 81 := h
  omega
 ·split at h
  ·have h : lastE s ts = 81 := h
   omega
  ·split at h
   ·next x y hx hy =>
    have h2 := place_code s x
    split at h
    ·cases h
    ·split at h
     ·cases h
     ·split at h
      ·cases h
      ·split at h
       ·have h : (placeL s x).2 = 81 := h
        omega
       ·cases h
   ·cases h
theorem unlink_81 {s : PSt} {ls : List ByteArray} : (unlinkOp s ls).2 ≠ 81 := fun h => by
 have h1 := lastE_code s ls
 unfold unlinkOp at h
 split at h
 ·have h : lastE s ls = 81 := h
  omega
 ·repeat' split at h
  all_goals cases h
theorem rmdir_81 {s : PSt} {ls : List ByteArray} : (rmdirOp s ls).2 ≠ 81 := fun h => by
 have h1 := lastE_code s ls
 unfold rmdirOp at h
 split at h
 ·have h : lastE s ls = 81 := h
  omega
 ·repeat' split at h
  all_goals cases h
theorem rename_81 {s : PSt} {ls ts : List ByteArray} : (renameOp s ls ts).2 ≠ 81 := fun h => by
 have h1 := lastE_code s ls
 have h2 := lastE_code s ts
 unfold renameOp at h
 split at h
 ·have h : lastE s ls = 81 := h
  omega
 ·split at h
  ·have h : lastE s ts = 81 := h
   omega
  ·split at h
   ·next x1 x2 _ _ =>
    have h3 := place_code s x2
    repeat' split at h
    all_goals first | cases h | (have h : (placeL s x2).2 = 81 := h; omega)
   ·cases h
theorem at_81 {s : PSt} {i : Int} {o : OpS} : codeA (atOp s i o).2 ≠ 81 := fun h => by
 unfold atOp at h
 split at h
 ·cases h
 ·next x hx =>
  have hw : (writeOp s i x o.off o.data).2 ≠ 81 := fun h => by
   unfold writeOp at h
   repeat' split at h
   all_goals cases h
  have ht : (truncOp s i x o.off).2 ≠ 81 := fun h => by
   unfold truncOp at h
   split at h <;> cases h
  have hr : codeA (readOp x o.off o.len) ≠ 81 := fun h => by
   unfold readOp at h
   repeat' split at h
   all_goals cases h
  repeat' split at h
  all_goals first | cases h | exact hw h | exact ht h | exact hr h
theorem doS_81 {s : PSt} {o : OpS} (h : codeA (doS s o).2 = 81) : (nodesN s : Int) = s.ino := by
 have hp := split_code o.path.data.toList
 have ht := split_code o.tto.data.toList
 have hw := walk_code s (namesOf o.path) 1
 unfold doS at h
 by_cases e0 : okOp o
 ·rw [if_neg (fun c => c e0)] at h
  by_cases e1 : o.kind = 12 ∨ o.kind = 14
  ·rw [if_pos e1] at h; cases h
  ·rw [if_neg e1] at h
   by_cases e2 : (splitR o.path.data.toList).2 = 0
   ·rw [if_neg (fun c => c e2)] at h
    by_cases e3 : (o.kind = 3 ∨ o.kind = 6) ∧ (splitR o.tto.data.toList).2 ≠ 0
    ·rw [if_pos e3] at h
     have h : (splitR o.tto.data.toList).2 = 81 := h
     omega
    ·rw [if_neg e3] at h
     by_cases k1 : o.kind = 1
     ·rw [if_pos k1] at h; exact make_81 h
     ·rw [if_neg k1] at h
      by_cases k2 : o.kind = 2
      ·rw [if_pos k2] at h; exact make_81 h
      ·rw [if_neg k2] at h
       by_cases k3 : o.kind = 3
       ·rw [if_pos k3] at h; exact absurd h link_81
       ·rw [if_neg k3] at h
        by_cases k4 : o.kind = 4
        ·rw [if_pos k4] at h; exact absurd h unlink_81
        ·rw [if_neg k4] at h
         by_cases k5 : o.kind = 5
         ·rw [if_pos k5] at h; exact absurd h rmdir_81
         ·rw [if_neg k5] at h
          by_cases k6 : o.kind = 6
          ·rw [if_pos k6] at h; exact absurd h rename_81
          ·rw [if_neg k6] at h
           by_cases kw : (walkL s (namesOf o.path) 1).2 = 0
           ·rw [if_neg (fun c => c kw)] at h; exact absurd h at_81
           ·rw [if_pos kw] at h
            have h : (walkL s (namesOf o.path) 1).2 = 81 := h
            omega
   ·rw [if_pos e2] at h
    have h : (splitR o.path.data.toList).2 = 81 := h
    omega
 ·rw [if_pos e0] at h; cases h
theorem stat_is {s : PSt} {p : ByteArray} {j : Int} {x : Nd} (h : askS s 10 p 0 = .stat j x) : (splitR p.data.toList).2 = 0 ∧ walkL s (namesOf p) 1 = (j, 0) ∧ s.nd j = some x := by
 rw [ask_eq s 10 p 0 (.inl ⟨rfl, rfl⟩)] at h
 by_cases c2 : (splitR p.data.toList).2 ≠ 0
 ·rw [if_pos c2] at h; cases h
 ·rw [if_neg c2] at h
  by_cases kw : (walkL s (namesOf p) 1).2 ≠ 0
  ·rw [if_pos kw] at h; cases h
  ·rw [if_neg kw] at h
   cases hx : s.nd (walkL s (namesOf p) 1).1 with
   | none =>
    have e1 : (atOp s (walkL s (namesOf p) 1).1 (askO 10 p 0)).2 = .err 0 := by unfold atOp; rw [hx]
    rw [e1] at h
    cases h
   | some y =>
    rw [at_eq hx 10 p 0 (.inl ⟨rfl, rfl⟩), if_pos rfl] at h
    cases h
    have kw : (walkL s (namesOf p) 1).2 = 0 := Classical.byContradiction kw
    refine ⟨Classical.byContradiction c2, ?_, hx⟩
    rw [← kw]
theorem ask_10 (s : PSt) (p : ByteArray) : (∃ j x, askS s 10 p 0 = .stat j x) ∨ ∃ e, e ≠ 0 ∧ askS s 10 p 0 = .err e ∨ askS s 10 p 0 = .err 0 := by
 rw [ask_eq s 10 p 0 (.inl ⟨rfl, rfl⟩)]
 by_cases c2 : (splitR p.data.toList).2 ≠ 0
 ·rw [if_pos c2]; exact .inr ⟨_, .inl ⟨c2, rfl⟩⟩
 ·rw [if_neg c2]
  by_cases kw : (walkL s (namesOf p) 1).2 ≠ 0
  ·rw [if_pos kw]; exact .inr ⟨_, .inl ⟨kw, rfl⟩⟩
  ·rw [if_neg kw]
   cases hx : s.nd (walkL s (namesOf p) 1).1 with
   | none =>
    have e1 : (atOp s (walkL s (namesOf p) 1).1 (askO 10 p 0)).2 = .err 0 := by unfold atOp; rw [hx]
    rw [e1]
    exact .inr ⟨1, .inr rfl⟩
   | some y =>
    rw [at_eq hx 10 p 0 (.inl ⟨rfl, rfl⟩), if_pos rfl]
    exact .inl ⟨_, _, rfl⟩
theorem doS_write {s : PSt} {o : OpS} (hk : o.kind = 7) (hok : okOp o) {j : Int} {x : Nd} (h : askS s 10 o.path 0 = .stat j x) (hf : x.kind = 1) : codeA (doS s o).2 = (writeOp s j x o.off o.data).2 := by
 obtain ⟨h1, h2, h3⟩ := stat_is h
 unfold doS
 rw [if_neg (fun c => c hok), if_neg (by omega), if_neg (fun c => c h1), if_neg (by omega), if_neg (by omega), if_neg (by omega), if_neg (by omega), if_neg (by omega), if_neg (by omega), if_neg (by omega), h2, if_neg (fun c => c rfl)]
 unfold atOp
 simp only [h3]
 rw [if_neg (by omega), if_neg (by omega), if_neg (by omega), if_pos hk]
 rfl
end Go.Proofs.YtmgfilacepnjlaaGreatDoor
