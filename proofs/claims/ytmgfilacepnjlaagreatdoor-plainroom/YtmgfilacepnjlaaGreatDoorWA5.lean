/-
 package plain, as functions: what is listed, as a function.
-/
import Derived.Test.YtmgfilacepnjlaaGreatDoorWA3
import Derived.Test.YtmgfilacepnjlaaGreatDoorVM
namespace Go.Proofs.YtmgfilacepnjlaaGreatDoor
open Go.RowKit

theorem Keep2.wrote {s : PSt} {i : Int} {x : Nd} (h : Inv2 s) (hx : s.nd i = some x) (hf : x.kind ≠ 2) (R : Nat → List Int) (o : Nat) (ds : List Int) (hd : ds ≠ []) (hr : roomB s x (o / 128) ((o + ds.length - 1) / 128 + 1) = true) : Keep2 (s.put i (wroteM x R o ds)) := by
 have hI := h.inv
 have hri := InvD.rng hI _ x hx
 have hnum := InvD.num hI
 have hl : 0 < ds.length := List.length_pos_iff.2 hd
 have hb : ∀ y : Int, (wroteM x R o ds).blk y ≠ none ↔ (x.blk y ≠ none ∨ (((o / 128 : Nat) : Int) ≤ y ∧ 128 * y < (o : Int) + ds.length)) := fun y => by
  show (if 0 < ds.length ∧ ((o / 128 : Nat) : Int) ≤ y ∧ 128 * y < (o : Int) + ds.length then some (Value.agg _) else x.blk y) ≠ none ↔ _
  by_cases c : 0 < ds.length ∧ ((o / 128 : Nat) : Int) ≤ y ∧ 128 * y < (o : Int) + ds.length
  ·rw [if_pos c]
   exact ⟨fun _ => .inr c.2, fun _ e => by cases e⟩
  ·rw [if_neg c]
   exact ⟨.inl, fun e => e.resolve_right fun e => c ⟨hl, e⟩⟩
 refine ⟨h.q.put ⟨fun c => absurd c hf, fun y hy => ?_⟩, ?_, Rank.sub h.rank fun d' t' j' e => ?_⟩
 ·show 128 * y < max x.size ((o : Int) + ds.length)
  rcases (hb y).1 hy with c | c
  ·have := (h.q _ x hx).2 y c
   omega
  ·omega
 ·have t1 := taken_put (x' := wroteM x R o ds) hx (by omega) (by omega)
  have t2 : cardN (wroteM x R o ds) = cardQ x (o / 128) ((o + ds.length - 1) / 128 + 1) := cardQ_eq fun m => by
   unfold TalQ TalP
   constructor
   ·rintro (⟨k, h1, h2⟩ | h1)
    ·rcases (hb k).1 h1 with c | c
     ·exact .inl (.inl ⟨k, c, h2⟩)
     ·exact .inr ⟨k, by omega, by omega, h2⟩
    ·exact .inl (.inr h1)
   ·rintro ((⟨k, h1, h2⟩ | h1) | ⟨k, h1, h2, h3⟩)
    ·exact .inl ⟨k, (hb k).2 (.inl h1), h2⟩
    ·exact .inr h1
    ·exact .inl ⟨k, (hb k).2 (.inr ⟨by omega, by omega⟩), h3⟩
  have := room_le hr
  show _ ≤ s.data
  omega
 ·rcases Ed.of_put e with ⟨e1, e2⟩ | ⟨_, e2⟩
  ·exact ⟨x, by rw [e1]; exact hx, e2⟩
  ·exact e2
theorem cut_facts (x : Nd) (n : Int) : (cutN x n).kind = x.kind ∧ (cutN x n).links = x.links ∧ (cutN x n).sl = x.sl ∧ (cutN x n).nm = x.nm ∧ (cutN x n).size = n ∧ (cutN x n).made = x.made ∧ (∀ y, (cutN x n).blk y ≠ none → x.blk y ≠ none ∧ 128 * y < n) := by
 unfold cutN
 by_cases c : x.blk (n / 128) = none ∨ n % 128 = 0
 ·rw [if_pos c]
  refine ⟨rfl, rfl, rfl, rfl, rfl, rfl, fun y hy => ?_⟩
  have hy : (if n ≤ y * 128 then none else x.blk y) ≠ none := hy
  by_cases c2 : n ≤ y * 128
  ·rw [if_pos c2] at hy; exact absurd rfl hy
  ·rw [if_neg c2] at hy; exact ⟨hy, by omega⟩
 ·rw [if_neg c]
  refine ⟨rfl, rfl, rfl, rfl, rfl, rfl, fun y hy => ?_⟩
  have hy : (if y = n / 128 then some (Value.agg (SA (cutL (rowsN x (n / 128).toNat) (n % 128).toNat))) else if n ≤ y * 128 then none else x.blk y) ≠ none := hy
  by_cases c1 : y = n / 128
  ·have a1 : x.blk (n / 128) ≠ none := fun e => c (.inl e)
   have a2 : n % 128 ≠ 0 := fun e => c (.inr e)
   rw [c1]
   exact ⟨a1, by omega⟩
  ·rw [if_neg c1] at hy
   by_cases c2 : n ≤ y * 128
   ·rw [if_pos c2] at hy; exact absurd rfl hy
   ·rw [if_neg c2] at hy; exact ⟨hy, by omega⟩
theorem find_same {x y : Nd} (h1 : y.sl = x.sl) (h2 : y.nm = x.nm) (t : ByteArray) : findN y t = findN x t := by
 unfold findN
 rw [h1, h2]
theorem Keep2.cut {s : PSt} {i : Int} {x : Nd} (h : Inv2 s) (hx : s.nd i = some x) (n : Int) : Keep2 (s.put i (cutN x n)) := by
 have hI := h.inv
 have hri := InvD.rng hI _ x hx
 have hnum := InvD.num hI
 obtain ⟨c1, c2, c3, c4, c5, _, c6⟩ := cut_facts x n
 refine ⟨h.q.put ⟨fun c => by rw [c2]; exact (h.q _ x hx).1 (by rw [← c1]; exact c), fun y hy => by rw [c5]; exact (c6 y hy).2⟩, ?_, Rank.sub h.rank fun d' t' j' e => ?_⟩
 ·have t1 := taken_put (x' := cutN x n) hx (by omega) (by omega)
  have t2 : cardN (cutN x n) ≤ cardN x := card_mono fun m => by
   unfold TalP
   rw [c3]
   rintro (⟨k, h1, h2⟩ | h1)
   ·exact .inl ⟨k, (c6 _ h1).1, h2⟩
   ·exact .inr h1
  have := h.tak
  show _ ≤ s.data
  omega
 ·rcases Ed.of_put e with ⟨e1, e2⟩ | ⟨_, e2⟩
  ·exact ⟨x, by rw [e1]; exact hx, by rw [find_same c3 c4] at e2; exact e2⟩
  ·exact e2
theorem Keep2.atOp {s : PSt} {i : Int} {o : OpS} (h : Inv2 s) : Keep2 (atOp s i o).1 := by
 unfold Go.Proofs.YtmgfilacepnjlaaGreatDoor.atOp
 cases hx : s.nd i with
 | none => exact h.keep
 | some x =>
  simp only
  by_cases c1 : o.kind = 10
  ·rw [if_pos c1]; exact h.keep
  ·rw [if_neg c1]
   by_cases c2 : o.kind = 11
   ·rw [if_pos c2]
    by_cases c3 : x.kind = 2
    ·rw [if_pos c3]; exact h.keep
    ·rw [if_neg c3]; exact h.keep
   ·rw [if_neg c2]
    by_cases c3 : x.kind = 2
    ·rw [if_pos c3]; exact h.keep
    ·rw [if_neg c3]
     by_cases c4 : o.kind = 7
     ·rw [if_pos c4]
      show Keep2 (writeOp s i x o.off o.data).1
      unfold writeOp
      by_cases d1 : o.off < 0 ∨ 131072 < o.data.length ∨ 136704 - (o.data.length : Int) < o.off
      ·rw [if_pos d1]; exact h.keep
      ·rw [if_neg d1]
       by_cases d2 : o.data = []
       ·rw [if_pos d2]; exact h.keep
       ·rw [if_neg d2]
        by_cases d3 : roomB s x (o.off.toNat / 128) ((o.off.toNat + o.data.length - 1) / 128 + 1) = true
        ·rw [if_pos d3]
         exact Keep2.wrote h hx c3 _ _ _ d2 d3
        ·rw [if_neg d3]; exact h.keep
     ·rw [if_neg c4]
      by_cases c5 : o.kind = 8
      ·rw [if_pos c5]
       show Keep2 (truncOp s i x o.off).1
       unfold truncOp
       by_cases d1 : o.off < 0 ∨ 136704 < o.off
       ·rw [if_pos d1]; exact h.keep
       ·rw [if_neg d1]
        exact Keep2.cut h hx _
      ·rw [if_neg c5]
       by_cases c6 : o.kind = 9
       ·rw [if_pos c6]; exact h.keep
       ·rw [if_neg c6]; exact h.keep
theorem Keep2.doS {s : PSt} {o : OpS} (h : Inv2 s) : Keep2 (doS s o).1 := by
 unfold Go.Proofs.YtmgfilacepnjlaaGreatDoor.doS
 by_cases e0 : okOp o
 ·rw [if_neg (fun c => c e0)]
  by_cases e1 : o.kind = 12 ∨ o.kind = 14
  ·rw [if_pos e1]; exact h.keep
  ·rw [if_neg e1]
   by_cases e2 : (splitR o.path.data.toList).2 = 0
   ·rw [if_neg (fun c => c e2)]
    by_cases e3 : (o.kind = 3 ∨ o.kind = 6) ∧ (splitR o.tto.data.toList).2 ≠ 0
    ·rw [if_pos e3]; exact h.keep
    ·rw [if_neg e3]
     by_cases k1 : o.kind = 1
     ·rw [if_pos k1]; exact Keep2.makeOp h
     ·rw [if_neg k1]
      by_cases k2 : o.kind = 2
      ·rw [if_pos k2]; exact Keep2.makeOp h
      ·rw [if_neg k2]
       by_cases k3 : o.kind = 3
       ·rw [if_pos k3]; exact Keep2.linkOp h
       ·rw [if_neg k3]
        by_cases k4 : o.kind = 4
        ·rw [if_pos k4]; exact Keep2.unlinkOp h
        ·rw [if_neg k4]
         by_cases k5 : o.kind = 5
         ·rw [if_pos k5]; exact Keep2.rmdirOp h
         ·rw [if_neg k5]
          by_cases k6 : o.kind = 6
          ·rw [if_pos k6]
           exact Keep2.renameOp h (namesOf_ok (Classical.byContradiction fun c => e3 ⟨.inr k6, c⟩))
          ·rw [if_neg k6]
           by_cases kw : (walkL s (namesOf o.path) 1).2 = 0
           ·rw [if_neg (fun c => c kw)]; exact Keep2.atOp h
           ·rw [if_pos kw]; exact h.keep
   ·rw [if_pos e2]; exact h.keep
 ·rw [if_pos e0]; exact h.keep
theorem Inv2.doS {s : PSt} {o : OpS} (h : Inv2 s) (hd : ∀ b ∈ o.data, 0 ≤ b ∧ b ≤ 255) : Inv2 (doS s o).1 := (Keep2.doS h).mk (Inv.doS h.inv hd)
structure LikeN (x y : Nd) : Prop where
 kind : y.kind = x.kind
 links : y.links = x.links
 size : y.size = x.size
 blk : y.blk = x.blk
 find : ∀ t, findN y t = findN x t
structure Like (s u : PSt) : Prop where
 none_ : ∀ i, s.nd i = none → u.nd i = none
 some_ : ∀ i x, s.nd i = some x → ∃ y, u.nd i = some y ∧ LikeN x y
theorem LikeN.refl (x : Nd) : LikeN x x := ⟨rfl, rfl, rfl, rfl, fun _ => rfl⟩
theorem LikeN.trans {x y z : Nd} (h : LikeN x y) (k : LikeN y z) : LikeN x z := ⟨k.kind.trans h.kind, k.links.trans h.links, k.size.trans h.size, k.blk.trans h.blk, fun t => (k.find t).trans (h.find t)⟩
theorem Like.refl (s : PSt) : Like s s := ⟨fun _ h => h, fun _ x h => ⟨x, h, LikeN.refl x⟩⟩
theorem Like.trans {s u v : PSt} (h : Like s u) (k : Like u v) : Like s v :=
 ⟨fun i e => k.none_ i (h.none_ i e), fun i x e => by
  obtain ⟨y, h1, h2⟩ := h.some_ i x e
  obtain ⟨z, k1, k2⟩ := k.some_ i y h1
  exact ⟨z, k1, h2.trans k2⟩⟩
theorem Like.walk {s u : PSt} (h : Like s u) : ∀ (l : List ByteArray) (i : Int), walkL u l i = walkL s l i
 | [], _ => rfl
 | n :: l, i => by
  cases hx : s.nd i with
  | none =>
   have e1 : walkL s (n :: l) i = (0, 110) := by show (match s.nd i with | none => _ | some x => _) = _; rw [hx]
   have e2 : walkL u (n :: l) i = (0, 110) := by show (match u.nd i with | none => _ | some x => _) = _; rw [h.none_ i hx]
   rw [e1, e2]
  | some x =>
   obtain ⟨y, hy, hl⟩ := h.some_ i x hx
   rw [walkL_step hx, walkL_step hy, hl.kind, hl.find]
   by_cases c : x.kind = 2
   ·rw [if_pos c, if_pos c]
    cases findN x n with
    | none => rfl
    | some j => exact h.walk l j
   ·rw [if_neg c, if_neg c]
theorem find_iff {x : Nd} (t : ByteArray) : findN x t ≠ none ↔ x.nm t ≠ none := by
 unfold findN
 cases x.nm t <;> simp
theorem LikeN.names {x y : Nd} (h : LikeN x y) : namesL y = namesL x := by
 have e : ∀ L, NamesIs y L ↔ NamesIs x L := fun L => by
  unfold NamesIs
  refine and_congr Iff.rfl (forall_congr' fun t => ?_)
  rw [← find_iff, ← find_iff, h.find]
 have e2 : (fun L => NamesIs y L) = fun L => NamesIs x L := funext fun L => propext (e L)
 by_cases c : ∃ L, NamesIs x L
 ·obtain ⟨L, hL⟩ := c
  rw [namesL_is hL, namesL_is ((e L).2 hL)]
 ·have c' : ¬ ∃ L, NamesIs y L := fun ⟨L, hL⟩ => c ⟨L, (e L).1 hL⟩
  unfold namesL
  rw [dif_neg c, dif_neg c']
theorem ent_find {x : Nd} {t : ByteArray} : x.sl.getD ((x.nm t).getD 0).toNat 0 = (findN x t).getD (x.sl.getD 0 0) := by
 unfold findN
 cases x.nm t <;> rfl
end Go.Proofs.YtmgfilacepnjlaaGreatDoor

namespace Go.Proofs.YtmgfilacepnjlaaGreatDoor
open Go.RowKit

noncomputable def lineB (s : PSt) (acc p : ByteArray) : ByteArray :=
 acc ++ p ++ numI (stA (askS s 10 p 0) 0) ++ numI (stA (askS s 10 p 0) 1) ++ numI (stA (askS s 10 p 0) 2) ++ strL (datA (askS s 9 p 131072)) ++ ⟨#[10]⟩
noncomputable def listedL (s : PSt) : Nat → List ByteArray → ByteArray → ByteArray
 | 0, _, acc => acc
 | _ + 1, [], acc => acc
 | n + 1, p :: rest, acc => listedL s n (rest ++ (entA (askS s 11 p 0)).map fun e => belN p e.1) (lineB s acc p)
noncomputable def listedS (s : PSt) : ByteArray := listedL s 300 [⟨#[47]⟩] ByteArray.empty
theorem mem_namesL {x : Nd} {t : List UInt8} (h : t ∈ namesL x) : x.nm ⟨t.toArray⟩ ≠ none := by
 by_cases c : ∃ L, NamesIs x L
 ·obtain ⟨L, hL⟩ := c
  rw [namesL_is hL] at h
  exact (hL.2 t).1 h
 ·unfold namesL at h
  rw [dif_neg c] at h
  cases h
theorem Like.list {s u : PSt} (h : Like s u) {x y : Nd} (k : LikeN x y) : listS u y = listS s x := by
 unfold listS
 rw [k.names]
 refine List.map_congr_left fun t ht => ?_
 have h1 := mem_namesL ht
 obtain ⟨j, hj⟩ := Option.ne_none_iff_exists'.1 ((find_iff _).2 h1)
 have e1 : x.sl.getD ((x.nm ⟨t.toArray⟩).getD 0).toNat 0 = j := by rw [ent_find, hj]; rfl
 have e2 : y.sl.getD ((y.nm ⟨t.toArray⟩).getD 0).toNat 0 = j := by rw [ent_find, k.find, hj]; rfl
 unfold entOf
 rw [e1, e2]
 cases hx : s.nd j with
 | none => rw [h.none_ j hx]
 | some z =>
  obtain ⟨z', hz, hl⟩ := h.some_ j z hx
  rw [hz]
  simp only
  rw [hl.kind]
theorem LikeN.read {x y : Nd} (k : LikeN x y) (o n : Int) : readOp y o n = readOp x o n := by
 have e : rowsN y = rowsN x := by funext b; unfold rowsN; rw [k.blk]
 unfold readOp
 rw [k.size, e]
theorem ask_eq (s : PSt) (k : Int) (p : ByteArray) (n : Int) (hk : (k = 10 ∧ n = 0) ∨ (k = 11 ∧ n = 0) ∨ (k = 9 ∧ n = 131072)) : askS s k p n = if (splitR p.data.toList).2 ≠ 0 then .err (splitR p.data.toList).2 else if (walkL s (namesOf p) 1).2 ≠ 0 then .err (walkL s (namesOf p) 1).2 else (atOp s (walkL s (namesOf p) 1).1 (askO k p n)).2 := by
 unfold askS
 have e0 := ask_ok k p n hk
 have hp : (askO k p n).path = p := rfl
 have e1 : (askO k p n).kind = k := rfl
 obtain ⟨o, ho⟩ : ∃ o, o = askO k p n := ⟨_, rfl⟩
 rw [← ho] at e0 hp e1 ⊢
 unfold doS
 rw [if_neg (fun c => c e0), if_neg (by omega), hp]
 by_cases c2 : (splitR p.data.toList).2 = 0
 ·have hs : ¬ (splitR p.data.toList).2 ≠ 0 := fun c => c c2
  rw [if_neg hs, if_neg (by omega), if_neg (by omega), if_neg (by omega), if_neg (by omega), if_neg (by omega), if_neg (by omega), if_neg (by omega), if_neg hs]
  by_cases kw : (walkL s (namesOf p) 1).2 ≠ 0
  ·rw [if_pos kw, if_pos kw]
  ·rw [if_neg kw, if_neg kw]
 ·have hs : (splitR p.data.toList).2 ≠ 0 := c2
  rw [if_pos hs, if_pos hs]
theorem at_eq {s : PSt} {i : Int} {x : Nd} (hx : s.nd i = some x) (k : Int) (p : ByteArray) (n : Int) (hk : (k = 10 ∧ n = 0) ∨ (k = 11 ∧ n = 0) ∨ (k = 9 ∧ n = 131072)) : (atOp s i (askO k p n)).2 = if k = 10 then .stat i x else if k = 11 then (if x.kind = 2 then .list (listS s x) else .err 113) else if x.kind = 2 then .err 102 else readOp x 0 n := by
 have e1 : (askO k p n).kind = k := rfl
 have e2 : (askO k p n).off = 0 ∧ (askO k p n).len = n := ⟨rfl, rfl⟩
 obtain ⟨o, ho⟩ : ∃ o, o = askO k p n := ⟨_, rfl⟩
 rw [← ho] at e1 e2 ⊢
 unfold atOp
 rw [hx]
 simp only
 rw [e1, e2.1, e2.2]
 by_cases c10 : k = 10
 ·rw [if_pos c10, if_pos c10]
 ·rw [if_neg c10, if_neg c10]
  by_cases c11 : k = 11
  ·rw [if_pos c11, if_pos c11]
   by_cases c : x.kind = 2
   ·rw [if_pos c, if_pos c]
   ·rw [if_neg c, if_neg c]
  ·rw [if_neg c11, if_neg c11]
   by_cases c : x.kind = 2
   ·rw [if_pos c, if_pos c]
   ·rw [if_neg c, if_neg c, if_neg (by omega), if_neg (by omega), if_pos (by omega)]
theorem Like.ask {s u : PSt} (h : Like s u) (k : Int) (p : ByteArray) (n : Int) (hk : (k = 10 ∧ n = 0) ∨ (k = 11 ∧ n = 0) ∨ (k = 9 ∧ n = 131072)) :
  (∀ j, j < 3 → stA (askS u k p n) j = stA (askS s k p n) j) ∧ datA (askS u k p n) = datA (askS s k p n) ∧ entA (askS u k p n) = entA (askS s k p n) ∧ codeA (askS u k p n) = codeA (askS s k p n) := by
 have same : ∀ A : Ans, (∀ j, j < 3 → stA A j = stA A j) ∧ datA A = datA A ∧ entA A = entA A ∧ codeA A = codeA A := fun _ => ⟨fun _ _ => rfl, rfl, rfl, rfl⟩
 rw [ask_eq u k p n hk, ask_eq s k p n hk, h.walk]
 by_cases c2 : (splitR p.data.toList).2 = 0
 ·have hs : ¬ (splitR p.data.toList).2 ≠ 0 := fun c => c c2
  rw [if_neg hs, if_neg hs]
  by_cases kw : (walkL s (namesOf p) 1).2 = 0
  ·have hw : ¬ (walkL s (namesOf p) 1).2 ≠ 0 := fun c => c kw
   rw [if_neg hw, if_neg hw]
   cases hx : s.nd (walkL s (namesOf p) 1).1 with
   | none =>
    have e1 : (atOp s (walkL s (namesOf p) 1).1 (askO k p n)).2 = .err 0 := by unfold atOp; rw [hx]
    have e2 : (atOp u (walkL s (namesOf p) 1).1 (askO k p n)).2 = .err 0 := by unfold atOp; rw [h.none_ _ hx]
    rw [e1, e2]
    exact same _
   | some x =>
    obtain ⟨y, hy, hl⟩ := h.some_ _ x hx
    rw [at_eq hx k p n hk, at_eq hy k p n hk, hl.kind, hl.read, h.list hl]
    by_cases c10 : k = 10
    ·rw [if_pos c10, if_pos c10]
     refine ⟨fun j hj => ?_, rfl, rfl, rfl⟩
     show [_, y.kind, y.links, lenN y, y.made, (cardN y : Int)].getD j 0 = [_, x.kind, x.links, lenN x, x.made, (cardN x : Int)].getD j 0
     rw [hl.kind, hl.links]
     match j, hj with
     | 0, _ => rfl
     | 1, _ => rfl
     | 2, _ => rfl
    ·rw [if_neg c10, if_neg c10]
     exact same _
  ·have hw : (walkL s (namesOf p) 1).2 ≠ 0 := kw
   rw [if_pos hw, if_pos hw]
   exact same _
 ·have hs : (splitR p.data.toList).2 ≠ 0 := c2
  rw [if_pos hs, if_pos hs]
  exact same _
theorem Like.listedL {s u : PSt} (h : Like s u) : ∀ (n : Nat) (l : List ByteArray) (acc : ByteArray), listedL u n l acc = listedL s n l acc
 | 0, _, _ => rfl
 | n + 1, [], _ => rfl
 | n + 1, p :: rest, acc => by
  have h10 := h.ask 10 p 0 (.inl ⟨rfl, rfl⟩)
  have h11 := h.ask 11 p 0 (.inr (.inl ⟨rfl, rfl⟩))
  have h9 := h.ask 9 p 131072 (.inr (.inr ⟨rfl, rfl⟩))
  show Go.Proofs.YtmgfilacepnjlaaGreatDoor.listedL u n _ _ = Go.Proofs.YtmgfilacepnjlaaGreatDoor.listedL s n _ _
  rw [h11.2.2.1, show lineB u acc p = lineB s acc p by unfold lineB; rw [h10.1 0 (by omega), h10.1 1 (by omega), h10.1 2 (by omega), h9.2.1]]
  exact h.listedL n _ _
theorem Like.listed {s u : PSt} (h : Like s u) : listedS u = listedS s := h.listedL 300 _ _
def Same (s u : PSt) : Prop := (∀ i, s.nd i = none → u.nd i = none) ∧ ∀ i x, s.nd i = some x → ∃ y, u.nd i = some y ∧ y.kind = x.kind ∧ y.links = x.links ∧ y.size = x.size ∧ y.blk = x.blk
theorem Same.trans {s u v : PSt} (h : Same s u) (k : Same u v) : Same s v :=
 ⟨fun i e => k.1 i (h.1 i e), fun i x e => by
  obtain ⟨y, h1, h2, h3, h4, h5⟩ := h.2 i x e
  obtain ⟨z, k1, k2, k3, k4, k5⟩ := k.2 i y h1
  exact ⟨z, k1, k2.trans h2, k3.trans h3, k4.trans h4, k5.trans h5⟩⟩
theorem Same.put {s : PSt} {i : Int} {x y : Nd} (hx : s.nd i = some x) (h : y.kind = x.kind ∧ y.links = x.links ∧ y.size = x.size ∧ y.blk = x.blk) : Same s (s.put i y) :=
 ⟨fun j e => by rw [PSt.put_ne _ _ (fun c => by rw [c, hx] at e; cases e)]; exact e, fun j z e => by
  by_cases c : j = i
  ·rw [c, hx] at e
   cases e
   exact ⟨y, by rw [c, PSt.put_at], h⟩
  ·exact ⟨z, by rw [PSt.put_ne _ _ c]; exact e, rfl, rfl, rfl, rfl⟩⟩
theorem Like.of {s u : PSt} (h : Same s u) (hE : ∀ d t j, Ed u d t j ↔ Ed s d t j) : Like s u :=
 ⟨h.1, fun i x e => by
  obtain ⟨y, h1, h2, h3, h4, h5⟩ := h.2 i x e
  refine ⟨y, h1, h2, h3, h4, h5, fun t => Option.ext fun j => ?_⟩
  have := hE i t j
  constructor
  ·intro hf
   obtain ⟨x', a1, a2⟩ := this.1 ⟨y, h1, hf⟩
   rw [e] at a1; cases a1; exact a2
  ·intro hf
   obtain ⟨y', a1, a2⟩ := this.2 ⟨x, e, hf⟩
   rw [h1] at a1; cases a1; exact a2⟩
theorem Ed_put {s : PSt} {i : Int} {x' : Nd} {d j : Int} {t : ByteArray} : Ed (s.put i x') d t j ↔ if d = i then findN x' t = some j else Ed s d t j := by
 constructor
 ·intro h
  rcases h.of_put with ⟨e, f⟩ | ⟨e, f⟩
  ·rw [if_pos e]; exact f
  ·rw [if_neg e]; exact f
 ·intro h
  by_cases e : d = i
  ·rw [if_pos e] at h; exact ⟨x', by rw [e, PSt.put_at], h⟩
  ·rw [if_neg e] at h
   obtain ⟨x, h1, h2⟩ := h
   exact ⟨x, by rw [PSt.put_ne _ _ e]; exact h1, h2⟩
theorem Ed_at {s : PSt} {i : Int} {x : Nd} (hx : s.nd i = some x) {j : Int} {t : ByteArray} : Ed s i t j ↔ findN x t = some j :=
 ⟨fun ⟨y, h1, h2⟩ => by rw [hx] at h1; cases h1; exact h2, fun h => ⟨x, hx, h⟩⟩
theorem Ed_ent {s : PSt} {d i : Int} {x : Nd} {k : Nat} {n : ByteArray} (hx : s.nd d = some x) (hN : NdOk x) (hf : Free x.sl k) {d' j : Int} {t : ByteArray} : Ed (s.put d (entN x k n i)) d' t j ↔ if d' = d ∧ t = n then i = j else Ed s d' t j := by
 rw [Ed_put, find_ent hN hf]
 by_cases e : d' = d
 ·subst e
  rw [if_pos rfl]
  by_cases c : t = n
  ·rw [if_pos c, if_pos ⟨rfl, c⟩]; exact ⟨Option.some.inj, fun e => by rw [e]⟩
  ·rw [if_neg c, if_neg (fun h => c h.2), Ed_at hx]
 ·rw [if_neg e, if_neg (fun h => e h.1)]
theorem Ed_lea {s : PSt} {d : Int} {x : Nd} {k : Nat} {n : ByteArray} (hx : s.nd d = some x) (hN : NdOk x) (hn : x.nm n = some (k : Int)) {d' j : Int} {t : ByteArray} : Ed (s.put d (leaN x k n)) d' t j ↔ Ed s d' t j ∧ ¬ (d' = d ∧ t = n) := by
 rw [Ed_put, find_lea hN hn]
 by_cases e : d' = d
 ·subst e
  rw [if_pos rfl]
  by_cases c : t = n
  ·rw [if_pos c]; exact ⟨fun e => (by cases e), fun h => absurd ⟨rfl, c⟩ h.2⟩
  ·rw [if_neg c, Ed_at hx]; exact ⟨fun h => ⟨h, fun h => c h.2⟩, fun h => h.1⟩
 ·rw [if_neg e]; exact ⟨fun h => ⟨h, fun h => e h.1⟩, fun h => h.1⟩
end Go.Proofs.YtmgfilacepnjlaaGreatDoor
