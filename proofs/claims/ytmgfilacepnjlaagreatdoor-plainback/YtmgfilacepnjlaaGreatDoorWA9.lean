/-
 package plain, as functions: the sizes stay.
-/
import Derived.Test.YtmgfilacepnjlaaGreatDoorWA5
namespace Go.Proofs.YtmgfilacepnjlaaGreatDoor
open Go.RowKit

theorem lastE_of {s : PSt} {ls : List ByteArray} {d : Int} {x : Nd} (hn : ls ≠ []) (hw : walkL s ls.dropLast 1 = (d, 0)) (hx : s.nd d = some x) (hk : x.kind = 2) : lastE s ls = 0 ∧ lastD s ls = d := by
 have h1 : lastD s ls = d := by unfold lastD; rw [hw]
 refine ⟨?_, h1⟩
 unfold lastE
 rw [if_neg hn, if_pos (by rw [hw]), h1, hx]
 simp only
 rw [if_pos hk]
theorem walk_past {s u : PSt} (h : Inv s) (h' : Inv u) {d1 : Int} {n1 : ByteArray} (hE : ∀ d t j, Ed s d t j → ¬ (d = d1 ∧ t = n1) → Ed u d t j) (l : List ByteArray) : ∀ j, walkL s l 1 = (j, 0) → (∀ a b, l = a ++ n1 :: b → walkL s a 1 ≠ (d1, 0)) → walkL u l 1 = (j, 0) := by
 refine snoc_ind (P := fun l => ∀ j, walkL s l 1 = (j, 0) → (∀ a b, l = a ++ n1 :: b → walkL s a 1 ≠ (d1, 0)) → walkL u l 1 = (j, 0)) (fun j hj _ => hj) (fun a n ih j hj hp => ?_) l
 obtain ⟨k, h1, h2⟩ := (walk_snoc h).1 hj
 refine (walk_snoc h').2 ⟨k, ih k h1 (fun a' b' e => hp a' (b' ++ [n]) (by rw [e]; simp)), hE _ _ _ h2 fun c => ?_⟩
 obtain ⟨rfl, rfl⟩ := c
 exact hp a [] (by simp) h1
theorem walk_keep {s u : PSt} (h : Inv s) (h' : Inv u) (hE : ∀ d t j, Ed s d t j → Ed u d t j) (l : List ByteArray) : ∀ i j, walkL s l i = (j, 0) → walkL u l i = (j, 0) := by
 induction l with
 | nil => exact fun i j e => e
 | cons n l ih =>
  intro i j e
  obtain ⟨k, h1, h2⟩ := (walk_iff h).1 e
  exact (walk_iff h').2 ⟨k, hE _ _ _ h1, ih k j h2⟩
theorem nodes_count (s : PSt) : nodesN s = (List.range 513).countP fun i => (s.nd (i : Nat)).isSome := by
 unfold nodesN
 rw [List.countP_eq_length_filter]
theorem nodes_same {s u : PSt} (h : ∀ i, (u.nd i).isSome = (s.nd i).isSome) : nodesN u = nodesN s := by
 rw [nodes_count, nodes_count]
 exact List.countP_congr fun i _ => by rw [h]
theorem range_new (f g : Nat → Bool) (m : Nat) (hf : f m = false) (hg : ∀ i, g i = (decide (i = m) || f i)) : ∀ N, m < N → (List.range N).countP g = (List.range N).countP f + 1
 | 0, h => absurd h (Nat.not_lt_zero _)
 | N + 1, h => by
  rw [List.range_succ, List.countP_append, List.countP_append]
  by_cases e : m = N
  ·have h0 : (List.range N).countP g = (List.range N).countP f := List.countP_congr fun i hi => by
    have : i ≠ m := by have := List.mem_range.1 hi; omega
    rw [hg, decide_eq_false this, Bool.false_or]
   rw [h0]
   simp [hg, ← e, hf]
  ·rw [range_new f g m hf hg N (by omega)]
   have : g N = f N := by rw [hg, decide_eq_false (fun c => e c.symm), Bool.false_or]
   simp only [List.countP_singleton, this]
   omega
theorem nodes_new {s u : PSt} {m : Nat} (hm : m ≤ 512) (h0 : s.nd (m : Nat) = none) (h1 : (u.nd (m : Nat)).isSome = true) (h : ∀ i, i ≠ (m : Int) → (u.nd i).isSome = (s.nd i).isSome) : nodesN u = nodesN s + 1 := by
 rw [nodes_count, nodes_count]
 refine range_new _ _ m (by rw [h0]; rfl) (fun i => ?_) 513 (by omega)
 by_cases e : i = m
 ·rw [e, h1, decide_eq_true rfl]; rfl
 ·rw [decide_eq_false e, Bool.false_or, h _ (by omega)]
theorem Like.some_iff {s u : PSt} (h : Like s u) (i : Int) : (u.nd i).isSome = (s.nd i).isSome := by
 cases hx : s.nd i with
 | none => rw [h.none_ i hx]
 | some x => obtain ⟨y, hy, _⟩ := h.some_ i x hx; rw [hy]; rfl
theorem make_back {s : PSt} {ls : List ByteArray} {kind made : Int} (h : Inv2 s) (hn : ∀ t ∈ ls, NmOk t) (hk : kind = 1 ∨ kind = 2) (hm : 0 ≤ made ∧ made ≤ 1099511627776) (hc : codeA (makeOp s ls kind made).2 = 0) :
  nodesN (makeOp s ls kind made).1 = nodesN s + 1 ∧ (if kind = 1 then unlinkOp (makeOp s ls kind made).1 ls else rmdirOp (makeOp s ls kind made).1 ls).2 = 0 ∧ Like s (if kind = 1 then unlinkOp (makeOp s ls kind made).1 ls else rmdirOp (makeOp s ls kind made).1 ls).1 := by
 have hI := h.inv
 have hI1 := Inv.makeOp hI hn hk hm (ls := ls)
 obtain ⟨R, hR⟩ : ∃ R, R = makeOp s ls kind made := ⟨_, rfl⟩
 rw [← hR] at hc hI1 ⊢
 unfold makeOp at hR
 by_cases e : lastE s ls = 0
 ·rw [if_neg (fun c => c e)] at hR
  obtain ⟨x, hx, hx2⟩ := lastE_dir e
  rw [hx] at hR
  simp only at hR
  cases hf : findN x (lastN ls) with
  | some i => rw [hf] at hR; rw [hR] at hc; cases hc
  | none =>
   rw [hf, if_neg (by simp)] at hR
   by_cases hcc : (nodesN s : Int) = s.ino
   ·rw [if_pos hcc] at hR; rw [hR] at hc; cases hc
   ·rw [if_neg hcc] at hR
    by_cases hp : (placeL s x).2 = 0
    ·rw [if_neg (fun c => c hp)] at hR
     obtain ⟨f1, f2, f3⟩ := Inv.free hI hcc
     have hN := InvD.nd hI _ x hx
     have hnum := InvD.num hI
     have hne : lastD s ls ≠ (freeI s : Nat) := fun e => by rw [e, f1] at hx; cases hx
     have hd : (s.put (freeI s : Nat) (newNd kind made)).nd (lastD s ls) = some x := by
      rw [PSt.put_ne _ _ hne]; exact hx
     have hfr := free_least x.sl
     obtain ⟨F, hF⟩ : ∃ F : Nat, F = freeI s := ⟨_, rfl⟩
     obtain ⟨k, hkk⟩ : ∃ k, k = least0 x.sl := ⟨_, rfl⟩
     obtain ⟨n, hnn⟩ : ∃ n, n = lastN ls := ⟨_, rfl⟩
     obtain ⟨d, hdd⟩ : ∃ d, d = lastD s ls := ⟨_, rfl⟩
     have hR1 : R.1 = (s.put (F : Nat) (newNd kind made)).put d (entN x k n (F : Nat)) := by rw [hR, hF, hkk, hnn, hdd]; rfl
     have hw := lastE_walk e
     have hls := lastE_ne e
     rw [← hnn] at hf
     rw [← hF] at f1 f2 f3
     rw [← hdd, ← hF] at hne
     rw [← hdd, ← hF] at hd
     rw [← hdd] at hx hw
     rw [← hkk] at hfr
     rw [hR1] at hI1 ⊢
     obtain ⟨u, hu⟩ : ∃ u, u = (s.put (F : Nat) (newNd kind made)).put d (entN x k n (F : Nat)) := ⟨_, rfl⟩
     rw [← hu] at hI1 ⊢
     have ud : u.nd d = some (entN x k n (F : Nat)) := by rw [hu, PSt.put_at]
     have uF : u.nd (F : Nat) = some (newNd kind made) := by rw [hu, PSt.put_ne _ _ (Ne.symm hne), PSt.put_at]
     have uo : ∀ i, i ≠ d → i ≠ (F : Nat) → u.nd i = s.nd i := fun i i1 i2 => by rw [hu, PSt.put_ne _ _ i1, PSt.put_ne _ _ i2]
     have uE : ∀ d' t j, Ed s d' t j → Ed u d' t j := fun d' t j hE => by
      rw [hu, Ed_ent hd hN hfr, Ed_put]
      by_cases c : d' = d ∧ t = n
      ·obtain ⟨y, y1, y2⟩ := hE
       rw [c.1, hx] at y1
       cases y1
       rw [c.2, hf] at y2
       cases y2
      ·rw [if_neg c, if_neg (fun c => by obtain ⟨y, y1, _⟩ := hE; rw [c, f1] at y1; cases y1)]
       exact hE
     obtain ⟨l1, l2⟩ := lastE_of hls (walk_keep hI hI1 uE _ _ _ hw) ud hx2
     have hnm : (entN x k n (F : Nat)).nm n = some (k : Int) := if_pos rfl
     have hat : (entN x k n (F : Nat)).sl.getD k 0 = (F : Int) := slK_at hfr.1
     have hN1 := InvD.nd hI1 d _ ud
     refine ⟨nodes_new (m := F) (by omega) f1 (by rw [uF]; rfl) (fun i hi => ?_), ?_⟩
     ·by_cases c : i = d
      ·rw [c, ud, hx]; rfl
      ·rw [uo i c hi]
     have hloss : (loseS (u.put d (leaN (entN x k n (F : Nat)) k n)) (F : Nat) (newNd kind made)) = (u.put d (leaN (entN x k n (F : Nat)) k n)).del (F : Nat) := by
      unfold loseS
      rw [if_pos (show (newNd kind made).links = 1 from rfl)]
     have hres : (if kind = 1 then unlinkOp u ls else rmdirOp u ls) = ((u.put d (leaN (entN x k n (F : Nat)) k n)).del (F : Nat), 0) := by
      rcases hk with c | c
      ·rw [if_pos c]
       unfold unlinkOp
       rw [if_neg (fun q => q l1), l2, ud]
       simp only
       rw [← hnn, hnm]
       simp only [Int.toNat_natCast]
       rw [hat, uF]
       simp only
       rw [if_neg (show ¬ (newNd kind made).kind = 2 from fun q => by have q : kind = 2 := q; omega), hloss]
      ·rw [if_neg (by omega)]
       unfold rmdirOp
       rw [if_neg (fun q => q l1), l2, ud]
       simp only
       rw [← hnn, hnm]
       simp only [Int.toNat_natCast]
       rw [hat, uF]
       simp only
       rw [if_neg (show ¬ (newNd kind made).kind ≠ 2 from fun q => q c), if_neg (fun ⟨t, ht⟩ => ht rfl), hloss]
     rw [hres]
     refine ⟨rfl, fun i hi => ?_, fun i z hz => ?_⟩
     ·by_cases c : i = (F : Nat)
      ·rw [c]; exact PSt.del_at _ _
      ·rw [PSt.del_ne _ c, PSt.put_ne _ _ (fun q => by rw [q, hx] at hi; cases hi), uo i (fun q => by rw [q, hx] at hi; cases hi) c]
       exact hi
     ·have c : i ≠ (F : Nat) := fun c => by rw [c, f1] at hz; cases hz
      by_cases c2 : i = d
      ·rw [c2, hx] at hz
       cases hz
       refine ⟨leaN (entN x k n (F : Nat)) k n, ?_, rfl, rfl, rfl, rfl, fun t => ?_⟩
       ·rw [PSt.del_ne _ c, c2, PSt.put_at]
       ·rw [find_lea hN1 hnm, find_ent hN hfr]
        by_cases q : t = n
        ·rw [if_pos q, q, hf]
        ·rw [if_neg q, if_neg q]
      ·exact ⟨z, by rw [PSt.del_ne _ c, PSt.put_ne _ _ c2, uo i c2 c]; exact hz, LikeN.refl z⟩
    ·rw [if_pos hp] at hR
     rw [hR] at hc
     exact absurd hc hp
 ·rw [if_pos e] at hR
  rw [hR] at hc
  exact absurd hc e
theorem link_back {s : PSt} {ls ts : List ByteArray} (h : Inv2 s) (hn : ∀ t ∈ ts, NmOk t) (hc : (linkOp s ls ts).2 = 0) : (unlinkOp (linkOp s ls ts).1 ts).2 = 0 ∧ Like s (unlinkOp (linkOp s ls ts).1 ts).1 := by
 have hI := h.inv
 have hI1 := Inv.linkOp (ls := ls) hI hn
 obtain ⟨R, hR⟩ : ∃ R, R = linkOp s ls ts := ⟨_, rfl⟩
 rw [← hR] at hc hI1 ⊢
 unfold linkOp at hR
 by_cases e1 : (walkL s ls 1).2 = 0
 ·rw [if_neg (fun c => c e1)] at hR
  by_cases e : lastE s ts = 0
  ·rw [if_neg (fun c => c e)] at hR
   obtain ⟨x, hx, hx2⟩ := lastE_dir e
   obtain ⟨y, hy⟩ := Inv.walk hI e1
   rw [hx, hy] at hR
   simp only at hR
   cases hf : findN x (lastN ts) with
   | some i => rw [hf] at hR; rw [hR] at hc; cases hc
   | none =>
    rw [hf, if_neg (by simp)] at hR
    by_cases hk : y.kind = 2
    ·rw [if_pos hk] at hR; rw [hR] at hc; cases hc
    ·rw [if_neg hk] at hR
     by_cases hl : y.links = 100
     ·rw [if_pos hl] at hR; rw [hR] at hc; cases hc
     ·rw [if_neg hl] at hR
      by_cases hp : (placeL s x).2 = 0
      ·rw [if_neg (fun c => c hp)] at hR
       have hN := InvD.nd hI _ x hx
       have hNy := InvD.nd hI _ y hy
       have hw := lastE_walk e
       have hls := lastE_ne e
       have hfr := free_least x.sl
       obtain ⟨i, hi⟩ : ∃ i, i = (walkL s ls 1).1 := ⟨_, rfl⟩
       obtain ⟨k, hkk⟩ : ∃ k, k = least0 x.sl := ⟨_, rfl⟩
       obtain ⟨n, hnn⟩ : ∃ n, n = lastN ts := ⟨_, rfl⟩
       obtain ⟨d, hdd⟩ : ∃ d, d = lastD s ts := ⟨_, rfl⟩
       rw [← hi] at hy hR
       rw [← hkk] at hfr hR
       rw [← hnn] at hf hR
       rw [← hdd] at hx hw hR
       have hne : d ≠ i := fun c => by
        rw [c, hy] at hx
        cases hx
        exact hk hx2
       have hd : (s.put i { y with links := y.links + 1 }).nd d = some x := by rw [PSt.put_ne _ _ hne]; exact hx
       have hR1 : R.1 = (s.put i { y with links := y.links + 1 }).put d (entN x k n i) := by rw [hR]
       rw [hR1] at hI1 ⊢
       obtain ⟨u, hu⟩ : ∃ u, u = (s.put i { y with links := y.links + 1 }).put d (entN x k n i) := ⟨_, rfl⟩
       rw [← hu] at hI1 ⊢
       have ud : u.nd d = some (entN x k n i) := by rw [hu, PSt.put_at]
       have ui : u.nd i = some { y with links := y.links + 1 } := by rw [hu, PSt.put_ne _ _ (Ne.symm hne), PSt.put_at]
       have uo : ∀ j, j ≠ d → j ≠ i → u.nd j = s.nd j := fun j i1 i2 => by rw [hu, PSt.put_ne _ _ i1, PSt.put_ne _ _ i2]
       have uE : ∀ d' t j, Ed s d' t j → Ed u d' t j := fun d' t j hE => by
        rw [hu, Ed_ent hd hN hfr, Ed_put]
        by_cases c : d' = d ∧ t = n
        ·obtain ⟨z, y1, y2⟩ := hE
         rw [c.1, hx] at y1
         cases y1
         rw [c.2, hf] at y2
         cases y2
        ·rw [if_neg c]
         by_cases c2 : d' = i
         ·rw [if_pos c2]
          obtain ⟨z, y1, y2⟩ := hE
          rw [c2, hy] at y1
          cases y1
          exact y2
         ·rw [if_neg c2]; exact hE
       obtain ⟨l1, l2⟩ := lastE_of hls (walk_keep hI hI1 uE _ _ _ hw) ud hx2
       have hnm : (entN x k n i).nm n = some (k : Int) := if_pos rfl
       have hat : (entN x k n i).sl.getD k 0 = i := slK_at hfr.1
       have hN1 := InvD.nd hI1 d _ ud
       have hloss : (loseS (u.put d (leaN (entN x k n i) k n)) i { y with links := y.links + 1 }) = (u.put d (leaN (entN x k n i) k n)).put i { y with links := y.links + 1 - 1 } := by
        unfold loseS
        rw [if_neg (show ¬ y.links + 1 = 1 from fun c => by have := hNy.links; omega)]
       have hres : unlinkOp u ts = ((u.put d (leaN (entN x k n i) k n)).put i { y with links := y.links + 1 - 1 }, 0) := by
        unfold unlinkOp
        rw [if_neg (fun q => q l1), l2, ud]
        simp only
        rw [← hnn, hnm]
        simp only [Int.toNat_natCast]
        rw [hat, ui]
        simp only
        rw [if_neg hk, hloss]
       rw [hres]
       refine ⟨rfl, fun j hj => ?_, fun j z hz => ?_⟩
       ·have q1 : j ≠ d := fun q => by rw [q, hx] at hj; cases hj
        have q2 : j ≠ i := fun q => by rw [q, hy] at hj; cases hj
        show ((u.put d _).put i _).nd j = none
        rw [PSt.put_ne _ _ q2, PSt.put_ne _ _ q1, uo j q1 q2]
        exact hj
       ·by_cases c : j = i
        ·rw [c, hy] at hz
         cases hz
         refine ⟨{ y with links := y.links + 1 - 1 }, by rw [c]; exact PSt.put_at _ _ _, rfl, ?_, rfl, rfl, fun t => rfl⟩
         show y.links + 1 - 1 = y.links
         omega
        ·by_cases c2 : j = d
         ·rw [c2, hx] at hz
          cases hz
          refine ⟨leaN (entN x k n i) k n, ?_, rfl, rfl, rfl, rfl, fun t => ?_⟩
          ·show ((u.put d _).put i _).nd j = _
           rw [PSt.put_ne _ _ c, c2, PSt.put_at]
          ·rw [find_lea hN1 hnm, find_ent hN hfr]
           by_cases q : t = n
           ·rw [if_pos q, q, hf]
           ·rw [if_neg q, if_neg q]
         ·refine ⟨z, ?_, LikeN.refl z⟩
          show ((u.put d _).put i _).nd j = _
          rw [PSt.put_ne _ _ c, PSt.put_ne _ _ c2, uo j c2 c]
          exact hz
      ·rw [if_pos hp] at hR
       rw [hR] at hc
       exact absurd hc hp
  ·rw [if_pos e] at hR
   rw [hR] at hc
   exact absurd hc e
 ·rw [if_pos e1] at hR
  rw [hR] at hc
  exact absurd hc e1
end Go.Proofs.YtmgfilacepnjlaaGreatDoor

namespace Go.Proofs.YtmgfilacepnjlaaGreatDoor
open Go.RowKit

theorem Ed_move {s : PSt} {d1 d2 : Int} {n1 n2 : ByteArray} {x2 x1' : Nd} {k m : Nat} {i : Int} (h2 : s.nd d2 = some x2) (hN2 : NdOk x2) (hf : Free x2.sl k) (b1 : (s.put d2 (entN x2 k n2 i)).nd d1 = some x1') (hN1 : NdOk x1') (b2 : x1'.nm n1 = some (m : Int)) {d t j} : Ed ((s.put d2 (entN x2 k n2 i)).put d1 (leaN x1' m n1)) d t j ↔ (if d = d2 ∧ t = n2 then i = j else Ed s d t j) ∧ ¬ (d = d1 ∧ t = n1) := by
 rw [Ed_lea b1 hN1 b2, Ed_ent h2 hN2 hf]
theorem Same.move {s : PSt} {d1 d2 : Int} {n1 n2 : ByteArray} {x2 x1' : Nd} {k m : Nat} {i : Int} (h2 : s.nd d2 = some x2) (b1 : (s.put d2 (entN x2 k n2 i)).nd d1 = some x1') : Same s ((s.put d2 (entN x2 k n2 i)).put d1 (leaN x1' m n1)) :=
 (Same.put (y := entN x2 k n2 i) h2 ⟨rfl, rfl, rfl, rfl⟩).trans (Same.put (y := leaN x1' m n1) b1 ⟨rfl, rfl, rfl, rfl⟩)
theorem move_all {s : PSt} {d1 d2 : Int} {n1 n2 : ByteArray} {x1 x2 : Nd} {i : Int} (h : Inv s) (h1 : s.nd d1 = some x1) (h2 : s.nd d2 = some x2) (k1 : x1.kind = 2) (k2 : x2.kind = 2) (f1 : findN x1 n1 = some i) (f2 : findN x2 n2 = none) (hp : (placeL s x2).2 = 0) (hn : NmOk n2) :
  Same s (moveS s d1 d2 n1 n2 x2 i) ∧ (∀ d t j, Ed (moveS s d1 d2 n1 n2 x2 i) d t j ↔ (if d = d2 ∧ t = n2 then i = j else Ed s d t j) ∧ ¬ (d = d1 ∧ t = n1)) ∧ ∃ X1, (moveS s d1 d2 n1 n2 x2 i).nd d1 = some X1 ∧ least0 X1.sl < X1.sl.length := by
 obtain ⟨x1', m, b1, b2, b3, em, hI⟩ := Inv.moveS h h1 h2 k1 k2 f1 f2 hp hn
 have hN1 := InvD.nd h _ x1 h1
 have hN2 := InvD.nd h _ x2 h2
 have hre := (Ed.ref h ⟨x1, h1, f1⟩).1
 have hN2' : NdOk (entN x2 (least0 x2.sl) n2 i) := hN2.ent k2 (find_none f2) (free_least _) (hN2.place hp) hre hn
 have hx1' := put_some h1 b1
 have hN1' : NdOk x1' := by rw [hx1']; split <;> assumption
 rw [em]
 refine ⟨Same.move h2 b1, fun d t j => Ed_move h2 hN2 (free_least _) b1 hN1' b2, leaN x1' m n1, PSt.put_at _ _ _, ?_⟩
 show least0 (x1'.sl.set m 0) < (x1'.sl.set m 0).length
 have : ∀ (l : List Int) (m : Nat), m < l.length → l.getD m 0 = 0 → least0 l < l.length := fun l => by
  induction l with
  | nil => exact fun m hm _ => absurd hm (Nat.not_lt_zero _)
  | cons y l ih =>
   intro m hm he
   unfold least0
   by_cases c : y = 0
   ·rw [if_pos c]; simp
   ·rw [if_neg c]
    cases m with
    | zero => exact absurd he c
    | succ m =>
     have := ih m (by simpa using hm) he
     simpa using this
 exact this _ m (by rw [List.length_set]; exact b3) (set_at b3)
theorem rename_back {s : PSt} {ls ts : List ByteArray} (h : Inv2 s) (hnl : ∀ t ∈ ls, NmOk t) (hnt : ∀ t ∈ ts, NmOk t) (hc : (renameOp s ls ts).2 = 0) (hb : (walkL s ts 1).2 = 110) : (renameOp (renameOp s ls ts).1 ts ls).2 = 0 ∧ Like s (renameOp (renameOp s ls ts).1 ts ls).1 := by
 have hI := h.inv
 have hK1 := (Keep2.renameOp (ls := ls) h hnt).mk (Inv.renameOp hI hnt)
 obtain ⟨R, hR⟩ : ∃ R, R = renameOp s ls ts := ⟨_, rfl⟩
 rw [← hR] at hc hK1 ⊢
 unfold renameOp at hR
 by_cases e1 : lastE s ls = 0
 ·rw [if_neg (fun c => c e1)] at hR
  by_cases e2 : lastE s ts = 0
  ·rw [if_neg (fun c => c e2)] at hR
   obtain ⟨x1, hx1, hk1⟩ := lastE_dir e1
   obtain ⟨x2, hx2, hk2⟩ := lastE_dir e2
   have hwt : ∀ j, findN x2 (lastN ts) ≠ some j := fun j hj => by
    have := (walk_last hI e2 hx2).2 hj
    rw [this] at hb
    cases hb
   have f2 : findN x2 (lastN ts) = none := by
    cases q : findN x2 (lastN ts) with
    | none => rfl
    | some j => exact absurd q (hwt j)
   rw [hx1, hx2] at hR
   simp only at hR
   cases f1 : findN x1 (lastN ls) with
   | none => rw [f1] at hR; rw [hR] at hc; cases hc
   | some i =>
    rw [f1] at hR
    simp only at hR
    have hs : ¬ (lastD s ts = lastD s ls ∧ lastN ts = lastN ls) := fun c => by
     rw [c.1, hx1] at hx2
     cases hx2
     rw [c.2, f1] at f2
     cases f2
    rw [if_neg hs] at hR
    obtain ⟨yi, hyi⟩ := Inv.find hI hx1 f1
    rw [hyi, f2] at hR
    simp only at hR
    by_cases c1 : yi.kind = 2 ∧ belowB ts ls = true
    ·rw [if_pos c1] at hR; rw [hR] at hc; cases hc
    ·rw [if_neg c1] at hR
     by_cases c2 : yi.links = 100
     ·rw [if_pos c2] at hR; rw [hR] at hc; cases hc
     ·rw [if_neg c2] at hR
      by_cases hp : (placeL s x2).2 = 0
      ·rw [if_neg (fun c => c hp)] at hR
       have hnb := not_below h e1 e2 hx1 hx2 hk2 f1 hyi c1
       obtain ⟨m1, m2, X1, m3, m4⟩ := move_all hI hx1 hx2 hk1 hk2 f1 f2 hp (hnt _ (lastN_mem (lastE_ne e2)))
       have w1 := lastE_walk e1
       have w2 := lastE_walk e2
       have wl : walkL s ls 1 = (i, 0) := (walk_last hI e1 hx1).2 f1
       have wt0 : ∀ j, walkL s ts 1 ≠ (j, 0) := fun j e => hwt j ((walk_last hI e2 hx2).1 e)
       have s1 := last_snoc (lastE_ne e1)
       have s2 := last_snoc (lastE_ne e2)
       have g1 := hnl _ (lastN_mem (lastE_ne e1))
       have hR1 : R.1 = moveS s (lastD s ls) (lastD s ts) (lastN ls) (lastN ts) x2 i := by rw [hR]
       rw [hR1] at hK1 ⊢
       obtain ⟨d1, hd1⟩ : ∃ d, d = lastD s ls := ⟨_, rfl⟩
       obtain ⟨d2, hd2⟩ : ∃ d, d = lastD s ts := ⟨_, rfl⟩
       obtain ⟨n1, hn1⟩ : ∃ d, d = lastN ls := ⟨_, rfl⟩
       obtain ⟨n2, hn2⟩ : ∃ d, d = lastN ts := ⟨_, rfl⟩
       rw [← hd1, ← hd2, ← hn1, ← hn2] at hK1 m1 m2 m3 ⊢
       rw [← hd1] at hx1 w1 hs
       rw [← hd2] at hx2 w2 hnb hs
       rw [← hn1] at f1 s1 hs g1
       rw [← hn2] at f2 s2 hs
       obtain ⟨u, hu⟩ : ∃ u, u = moveS s d1 d2 n1 n2 x2 i := ⟨_, rfl⟩
       rw [← hu] at hK1 m1 m2 m3 ⊢
       have hU := hK1.inv
       have hE : ∀ d t j, Ed s d t j → ¬ (d = d1 ∧ t = n1) → Ed u d t j := fun d t j e c => by
        rw [m2]
        refine ⟨?_, c⟩
        rw [if_neg (fun q => by obtain ⟨z, z1, z2⟩ := e; rw [q.1, hx2] at z1; cases z1; rw [q.2, f2] at z2; cases z2)]
        exact e
       -- the paths still lead there
       have p1 : walkL u ls.dropLast 1 = (d1, 0) := walk_past hI hU hE _ _ w1 fun a b ea wa => by
        have := path_one hI h.q _ _ _ x1 hx1 hk1 wa w1
        rw [this] at ea
        have := congrArg List.length ea
        simp at this
       have p2 : walkL u ts.dropLast 1 = (d2, 0) := walk_past hI hU hE _ _ w2 fun a b ea wa => by
        have := path_one hI h.q _ _ _ x1 hx1 hk1 wa w1
        have e3 : ts.dropLast = ls ++ b := by rw [ea, this, ← s1]; simp
        rw [e3] at w2
        obtain ⟨k, q1, q2⟩ := (walk_app hI).1 w2
        rw [wl] at q1
        have : i = k := (Prod.mk.inj q1).1
        rw [← this] at q2
        exact hnb b q2
       obtain ⟨X1', a1, a2, a3, _, _⟩ := m1.2 d1 x1 hx1
       rw [m3] at a1
       cases a1
       obtain ⟨X2, a4, a5, a6, _, _⟩ := m1.2 d2 x2 hx2
       obtain ⟨yi', a7, a8, a9, _, _⟩ := m1.2 i yi hyi
       obtain ⟨l1, l2⟩ := lastE_of (lastE_ne e1) p1 m3 (a2.trans hk1)
       obtain ⟨l3, l4⟩ := lastE_of (lastE_ne e2) p2 a4 (a5.trans hk2)
       have hs' : ¬ (d1 = d2 ∧ n1 = n2) := fun c => hs ⟨c.1.symm, c.2.symm⟩
       have F2 : findN X2 n2 = some i := (Ed_at a4).1 ((m2 d2 n2 i).2 ⟨by rw [if_pos ⟨rfl, rfl⟩], hs⟩)
       have F1 : findN X1 n1 = none := by
        cases q : findN X1 n1 with
        | none => rfl
        | some j => exact absurd ⟨rfl, rfl⟩ ((m2 d1 n1 j).1 ((Ed_at m3).2 q)).2
       have hroom : (placeL u X1).2 = 0 := by
        have hN := InvD.nd hU _ X1 m3
        have := hN.len
        unfold placeL
        rw [if_neg (by omega), if_pos (room_there m4 hK1.tak)]
       have hbb : ¬ (yi'.kind = 2 ∧ belowB ls ts = true) := fun c => by
        have c := of_decide_eq_true c.2
        have e3 : ls = ts ++ ls.drop ts.length := by
         have := List.take_append_drop ts.length ls
         rw [c.2] at this
         exact this.symm
        have e4 : ls.dropLast = ts ++ (ls.drop ts.length).dropLast := by
         have hne : ls.drop ts.length ≠ [] := fun q => by have := List.length_drop (i := ts.length) (l := ls); rw [q] at this; simp at this; omega
         calc ls.dropLast = (ts ++ ls.drop ts.length).dropLast := by rw [← e3]
          _ = _ := List.dropLast_append_of_ne_nil hne
        rw [e4] at w1
        obtain ⟨k, q1, _⟩ := (walk_app hI).1 w1
        exact wt0 k q1
       have hres : renameOp u ts ls = (moveS u d2 d1 n2 n1 X1 i, 0) := by
        unfold renameOp
        rw [if_neg (fun c => c l3), if_neg (fun c => c l1), l2, l4, a4, m3]
        simp only
        rw [← hn1, ← hn2, F2]
        simp only
        rw [if_neg hs', a7, F1]
        simp only
        rw [if_neg hbb, if_neg (by rw [a9]; exact c2), if_neg (fun c => c hroom)]
       rw [hres]
       obtain ⟨v1, v2, _⟩ := move_all hU a4 m3 (a5.trans hk2) (a2.trans hk1) F2 F1 hroom g1
       refine ⟨rfl, Like.of (m1.trans v1) fun d t j => ?_⟩
       show Ed (moveS u d2 d1 n2 n1 X1 i) d t j ↔ _
       rw [v2]
       constructor
       ·rintro ⟨q1, q2⟩
        by_cases c : d = d1 ∧ t = n1
        ·rw [if_pos c] at q1
         rw [c.1, c.2, ← q1]
         exact ⟨x1, hx1, f1⟩
        ·rw [if_neg c, m2, if_neg q2] at q1
         exact q1.1
       ·intro e
        have c2 : ¬ (d = d2 ∧ t = n2) := fun q => by
         obtain ⟨z, z1, z2⟩ := e
         rw [q.1, hx2] at z1
         cases z1
         rw [q.2, f2] at z2
         cases z2
        refine ⟨?_, c2⟩
        by_cases c : d = d1 ∧ t = n1
        ·rw [if_pos c]
         rw [c.1, c.2] at e
         exact Ed.one ⟨x1, hx1, f1⟩ e
        ·rw [if_neg c, m2, if_neg c2]
         exact ⟨e, c⟩
      ·rw [if_pos hp] at hR
       rw [hR] at hc
       exact absurd hc hp
  ·rw [if_pos e2] at hR
   rw [hR] at hc
   exact absurd hc e2
 ·rw [if_pos e1] at hR
  rw [hR] at hc
  exact absurd hc e1
end Go.Proofs.YtmgfilacepnjlaaGreatDoor

namespace Go.Proofs.YtmgfilacepnjlaaGreatDoor
open Go.RowKit

def opP (k : Int) (p : ByteArray) : OpS := ⟨k, p, ByteArray.empty, 0, 0, [], 0, 0⟩
def opT (k : Int) (p t : ByteArray) : OpS := ⟨k, p, t, 0, 0, [], 0, 0⟩
theorem giv_two (p t : ByteArray) : bits .andNot .i64 (givF p t 0 0 0 0 0) 3 = 0 ∧ bits .andNot .i64 (givF p ByteArray.empty 0 0 0 0 0) 33 = 0 := by
 have e : ∀ b c : Bool, bits .andNot .i64 (markV (!decide ((0 : Int) = 0)) (markV (!decide ((0 : Int) = 0)) (markV (decide (0 < 0)) (markV (!decide ((0 : Int) = 0)) (markV (!decide ((0 : Int) = 0)) (markV c (markV b 0 1) 2) 4) 8) 16) 32) 64) 3 = 0 ∧ bits .andNot .i64 (markV (!decide ((0 : Int) = 0)) (markV (!decide ((0 : Int) = 0)) (markV (decide (0 < 0)) (markV (!decide ((0 : Int) = 0)) (markV (!decide ((0 : Int) = 0)) (markV (!ByteArray.empty.toList.isEmpty) (markV b 0 1) 2) 4) 8) 16) 32) 64) 33 = 0 := fun b c => by
  have h0 : ByteArray.empty.toList.isEmpty = true := by kernel_rfl
  rw [h0]
  cases b <;> cases c <;> exact ⟨by decide, by decide⟩
 exact e _ _
theorem okP (k : Int) (p : ByteArray) (hk : k = 1 ∨ k = 2 ∨ k = 4 ∨ k = 5) : okOp (opP k p) := by
 have h1 := (giv_ask p).1
 have h2 := (giv_two p p).2
 rcases hk with rfl | rfl | rfl | rfl
 ·exact ⟨by show (1 : Int) ≤ 1 ∧ (1 : Int) ≤ 14; omega, h2, by show (0 : Int) ≤ 0; omega, by show (0 : Int) ≤ 1099511627776; omega⟩
 ·exact ⟨by show (1 : Int) ≤ 2 ∧ (2 : Int) ≤ 14; omega, h2, by show (0 : Int) ≤ 0; omega, by show (0 : Int) ≤ 1099511627776; omega⟩
 ·exact ⟨by show (1 : Int) ≤ 4 ∧ (4 : Int) ≤ 14; omega, h1, by show (0 : Int) ≤ 0; omega, by show (0 : Int) ≤ 1099511627776; omega⟩
 ·exact ⟨by show (1 : Int) ≤ 5 ∧ (5 : Int) ≤ 14; omega, h1, by show (0 : Int) ≤ 0; omega, by show (0 : Int) ≤ 1099511627776; omega⟩
theorem okT (k : Int) (p t : ByteArray) (hk : k = 3 ∨ k = 6) : okOp (opT k p t) := by
 have h1 := (giv_two p t).1
 rcases hk with rfl | rfl
 ·exact ⟨by show (1 : Int) ≤ 3 ∧ (3 : Int) ≤ 14; omega, h1, by show (0 : Int) ≤ 0; omega, by show (0 : Int) ≤ 1099511627776; omega⟩
 ·exact ⟨by show (1 : Int) ≤ 6 ∧ (6 : Int) ≤ 14; omega, h1, by show (0 : Int) ≤ 0; omega, by show (0 : Int) ≤ 1099511627776; omega⟩
theorem doS_make (s : PSt) (k : Int) (p : ByteArray) (hk : k = 1 ∨ k = 2) : doS s (opP k p) = if (splitR p.data.toList).2 ≠ 0 then (s, .err (splitR p.data.toList).2) else makeOp s (namesOf p) k 0 := by
 have e0 := okP k p (by omega)
 have e1 : (opP k p).kind = k := rfl
 have hp : (opP k p).path = p := rfl
 have hm : (opP k p).made = 0 := rfl
 obtain ⟨o, ho⟩ : ∃ o, o = opP k p := ⟨_, rfl⟩
 rw [← ho] at e0 hp e1 hm ⊢
 unfold doS
 rw [if_neg (fun c => c e0), if_neg (by omega), hp, hm]
 by_cases c2 : (splitR p.data.toList).2 ≠ 0
 ·rw [if_pos c2, if_pos c2]
 ·rw [if_neg c2, if_neg c2, if_neg (by omega)]
  rcases hk with rfl | rfl
  ·rw [if_pos e1]
  ·rw [if_neg (by omega), if_pos e1]
theorem doS_take (s : PSt) (k : Int) (p : ByteArray) (hk : k = 4 ∨ k = 5) : doS s (opP k p) = if (splitR p.data.toList).2 ≠ 0 then (s, .err (splitR p.data.toList).2) else ((if k = 4 then unlinkOp s (namesOf p) else rmdirOp s (namesOf p)).1, .err (if k = 4 then unlinkOp s (namesOf p) else rmdirOp s (namesOf p)).2) := by
 have e0 := okP k p (by omega)
 have e1 : (opP k p).kind = k := rfl
 have hp : (opP k p).path = p := rfl
 obtain ⟨o, ho⟩ : ∃ o, o = opP k p := ⟨_, rfl⟩
 rw [← ho] at e0 hp e1 ⊢
 unfold doS
 rw [if_neg (fun c => c e0), if_neg (by omega), hp]
 by_cases c2 : (splitR p.data.toList).2 ≠ 0
 ·rw [if_pos c2, if_pos c2]
 ·rw [if_neg c2, if_neg c2, if_neg (by omega), if_neg (by omega), if_neg (by omega), if_neg (by omega)]
  rcases hk with rfl | rfl
  ·rw [if_pos e1, if_pos rfl]
  ·rw [if_neg (by omega), if_pos e1, if_neg (by omega)]
theorem doS_two (s : PSt) (k : Int) (p t : ByteArray) (hk : k = 3 ∨ k = 6) : doS s (opT k p t) = if (splitR p.data.toList).2 ≠ 0 then (s, .err (splitR p.data.toList).2) else if (splitR t.data.toList).2 ≠ 0 then (s, .err (splitR t.data.toList).2) else ((if k = 3 then linkOp s (namesOf p) (namesOf t) else renameOp s (namesOf p) (namesOf t)).1, .err (if k = 3 then linkOp s (namesOf p) (namesOf t) else renameOp s (namesOf p) (namesOf t)).2) := by
 have e0 := okT k p t hk
 have e1 : (opT k p t).kind = k := rfl
 have hp : (opT k p t).path = p := rfl
 have ht : (opT k p t).tto = t := rfl
 obtain ⟨o, ho⟩ : ∃ o, o = opT k p t := ⟨_, rfl⟩
 rw [← ho] at e0 hp e1 ht ⊢
 unfold doS
 rw [if_neg (fun c => c e0), if_neg (by omega), hp, ht]
 by_cases c2 : (splitR p.data.toList).2 ≠ 0
 ·rw [if_pos c2, if_pos c2]
 ·rw [if_neg c2, if_neg c2]
  by_cases c3 : (splitR t.data.toList).2 ≠ 0
  ·rw [if_pos ⟨by omega, c3⟩, if_pos c3]
  ·rw [if_neg (fun c => c3 c.2), if_neg c3, if_neg (by omega), if_neg (by omega)]
   rcases hk with rfl | rfl
   ·rw [if_pos e1, if_pos rfl]
   ·rw [if_neg (by omega), if_neg (by omega), if_neg (by omega), if_pos e1, if_neg (by omega)]
theorem back_make {s : PSt} (h : Inv2 s) (k : Int) (p : ByteArray) (hk : k = 1 ∨ k = 2) (hc : codeA (doS s (opP k p)).2 = 0) :
  nodesN (doS s (opP k p)).1 = nodesN s + 1 ∧ codeA (doS (doS s (opP k p)).1 (opP (k + 3) p)).2 = 0 ∧ Like s (doS (doS s (opP k p)).1 (opP (k + 3) p)).1 := by
 rw [doS_make s k p hk] at hc ⊢
 by_cases c2 : (splitR p.data.toList).2 ≠ 0
 ·rw [if_pos c2] at hc
  exact absurd hc c2
 ·rw [if_neg c2] at hc ⊢
  obtain ⟨h1, h2, h3⟩ := make_back h (namesOf_ok (Classical.byContradiction fun c => c2 c)) hk ⟨Int.le_refl _, by omega⟩ hc
  rw [doS_take _ (k + 3) p (by omega), if_neg c2]
  have e : (if k + 3 = 4 then unlinkOp (makeOp s (namesOf p) k 0).1 (namesOf p) else rmdirOp (makeOp s (namesOf p) k 0).1 (namesOf p)) = (if k = 1 then unlinkOp (makeOp s (namesOf p) k 0).1 (namesOf p) else rmdirOp (makeOp s (namesOf p) k 0).1 (namesOf p)) := by
   by_cases c : k = 1
   ·rw [if_pos c, if_pos (by omega)]
   ·rw [if_neg c, if_neg (by omega)]
  rw [e]
  exact ⟨h1, h2, h3⟩
theorem back_link {s : PSt} (h : Inv2 s) (p t : ByteArray) (hc : codeA (doS s (opT 3 p t)).2 = 0) :
  codeA (doS (doS s (opT 3 p t)).1 (opP 4 t)).2 = 0 ∧ Like s (doS (doS s (opT 3 p t)).1 (opP 4 t)).1 := by
 rw [doS_two s 3 p t (.inl rfl)] at hc ⊢
 by_cases c2 : (splitR p.data.toList).2 ≠ 0
 ·rw [if_pos c2] at hc
  exact absurd hc c2
 ·rw [if_neg c2] at hc ⊢
  by_cases c3 : (splitR t.data.toList).2 ≠ 0
  ·rw [if_pos c3] at hc
   exact absurd hc c3
  ·rw [if_neg c3, if_pos rfl] at hc ⊢
   rw [doS_take _ 4 t (.inl rfl), if_neg c3, if_pos rfl]
   exact link_back h (namesOf_ok (Classical.byContradiction fun c => c3 c)) hc
theorem back_rename {s : PSt} (h : Inv2 s) (p t : ByteArray) (hc : codeA (doS s (opT 6 p t)).2 = 0) (hb : codeA (askS s 10 t 0) = 110) :
  codeA (doS (doS s (opT 6 p t)).1 (opT 6 t p)).2 = 0 ∧ Like s (doS (doS s (opT 6 p t)).1 (opT 6 t p)).1 := by
 rw [doS_two s 6 p t (.inr rfl)] at hc ⊢
 by_cases c2 : (splitR p.data.toList).2 ≠ 0
 ·rw [if_pos c2] at hc
  exact absurd hc c2
 ·rw [if_neg c2] at hc ⊢
  by_cases c3 : (splitR t.data.toList).2 ≠ 0
  ·rw [if_pos c3] at hc
   exact absurd hc c3
  ·rw [if_neg c3, if_neg (by decide)] at hc ⊢
   rw [doS_two _ 6 t p (.inr rfl), if_neg c3, if_neg c2, if_neg (by decide)]
   have hw : (walkL s (namesOf t) 1).2 = 110 := by
    rw [ask_eq s 10 t 0 (.inl ⟨rfl, rfl⟩), if_neg c3] at hb
    by_cases kw : (walkL s (namesOf t) 1).2 ≠ 0
    ·rw [if_pos kw] at hb
     exact hb
    ·rw [if_neg kw] at hb
     cases hx : s.nd (walkL s (namesOf t) 1).1 with
     | none =>
      have e1 : (atOp s (walkL s (namesOf t) 1).1 (askO 10 t 0)).2 = .err 0 := by unfold atOp; rw [hx]
      rw [e1] at hb
      cases hb
     | some x =>
      rw [at_eq hx 10 t 0 (.inl ⟨rfl, rfl⟩), if_pos rfl] at hb
      cases hb
   exact rename_back h (namesOf_ok (Classical.byContradiction fun c => c2 c)) (namesOf_ok (Classical.byContradiction fun c => c3 c)) hc hw
theorem Like.inv2 {s : PSt} {o : OpS} (h : codeA (doS s o).2 ≠ 0) : Like s (doS s o).1 := by
 rw [doS_quiet (.inl h)]
 exact Like.refl s
theorem Like.nodes {s u : PSt} (h : Like s u) : nodesN u = nodesN s := nodes_same h.some_iff
theorem quiet_like {s : PSt} {o : OpS} (h : codeA (doS s o).2 ≠ 0 ∨ 9 ≤ o.kind) : Like s (doS s o).1 := by
 rw [doS_quiet h]
 exact Like.refl s
theorem inv2_new {n m : Int} (h : Inv (⟨n - 1 - m, m, fun i => if i = 1 then some (newNd 2 0) else none⟩ : PSt)) : Inv2 ⟨n - 1 - m, m, fun i => if i = 1 then some (newNd 2 0) else none⟩ := by
 have hnd : ∀ i x, (if i = (1 : Int) then some (newNd 2 0) else none) = some x → i = 1 ∧ x = newNd 2 0 := fun i x hx => by
  by_cases e : i = 1
  ·rw [if_pos e] at hx; cases hx; exact ⟨e, rfl⟩
  ·rw [if_neg e] at hx; cases hx
 refine ⟨h, fun i x hx => ?_, ?_, ⟨fun _ => 0, fun d t j e => ?_⟩⟩
 ·rw [(hnd i x hx).2]
  exact ⟨fun _ => rfl, fun y hy => absurd rfl hy⟩
 ·have h0 : takenN (⟨n - 1 - m, m, fun i => if i = 1 then some (newNd 2 0) else none⟩ : PSt) = 0 := by
   have e := taken_new (s := (⟨n - 1 - m, m, fun _ => none⟩ : PSt)) (i := 1) (x' := newNd 2 0) rfl (by omega) (by omega)
   rw [card_new] at e
   have z : ∀ k : Nat, sumN (⟨n - 1 - m, m, fun _ => none⟩ : PSt) (fun i => (⟨n - 1 - m, m, fun _ => none⟩ : PSt).nd i ≠ none) k = 0 := fun k => by
    induction k with
    | zero => rfl
    | succ k ih => unfold sumN; rw [ih, if_neg (fun c => c rfl)]
   have e2 : takenN (⟨n - 1 - m, m, fun _ => none⟩ : PSt) = 0 := z 513
   rw [e2] at e
   exact e
  rw [h0]
  exact h.num.1.1
 ·obtain ⟨x, hx, hf⟩ := e
  rw [(hnd d x hx).2] at hf
  cases hf
end Go.Proofs.YtmgfilacepnjlaaGreatDoor

namespace Go.Proofs.YtmgfilacepnjlaaGreatDoor
open Go.RowKit

def SameN (s u : PSt) : Prop := u.data = s.data ∧ u.ino = s.ino
theorem lose_num (s : PSt) (i : Int) (x : Nd) : SameN s (loseS s i x) := lose_data s i x
theorem make_num (s : PSt) (ls : List ByteArray) (kind made : Int) : SameN s (makeOp s ls kind made).1 := by
 unfold makeOp
 repeat' split
 all_goals exact ⟨rfl, rfl⟩
theorem link_num (s : PSt) (ls ts : List ByteArray) : SameN s (linkOp s ls ts).1 := by
 unfold linkOp
 repeat' split
 all_goals exact ⟨rfl, rfl⟩
theorem unlink_num (s : PSt) (ls : List ByteArray) : SameN s (unlinkOp s ls).1 := by
 unfold unlinkOp
 repeat' split
 all_goals first | exact ⟨rfl, rfl⟩ | exact lose_num (s.put _ _) _ _
theorem rmdir_num (s : PSt) (ls : List ByteArray) : SameN s (rmdirOp s ls).1 := by
 unfold rmdirOp
 repeat' split
 all_goals first | exact ⟨rfl, rfl⟩ | exact lose_num (s.put _ _) _ _
theorem move_num (s : PSt) (d1 d2 : Int) (n1 n2 : ByteArray) (x2 : Nd) (i : Int) : SameN s (moveS s d1 d2 n1 n2 x2 i) := by
 unfold moveS
 split
 all_goals exact ⟨rfl, rfl⟩
theorem repl_num (s : PSt) (d1 d2 : Int) (n1 n2 : ByteArray) (x2 : Nd) (k2 : Nat) (i j : Int) : SameN s (replS s d1 d2 n1 n2 x2 k2 i j) := by
 unfold replS
 repeat' split
 all_goals first | exact ⟨rfl, rfl⟩ | exact lose_num ((s.put _ _).put _ _) _ _
theorem rename_num (s : PSt) (ls ts : List ByteArray) : SameN s (renameOp s ls ts).1 := by
 unfold renameOp
 repeat' split
 all_goals first | exact ⟨rfl, rfl⟩ | exact repl_num s _ _ _ _ _ _ _ _ | exact move_num s _ _ _ _ _ _
theorem write_num (s : PSt) (i : Int) (x : Nd) (off : Int) (ds : List Int) : SameN s (writeOp s i x off ds).1 := by
 unfold writeOp
 repeat' split
 all_goals exact ⟨rfl, rfl⟩
theorem trunc_num (s : PSt) (i : Int) (x : Nd) (n : Int) : SameN s (truncOp s i x n).1 := by
 unfold truncOp
 repeat' split
 all_goals exact ⟨rfl, rfl⟩
theorem at_num (s : PSt) (i : Int) (o : OpS) : SameN s (atOp s i o).1 := by
 unfold atOp
 repeat' split
 all_goals first | exact ⟨rfl, rfl⟩ | exact write_num _ _ _ _ _ | exact trunc_num _ _ _ _
theorem doS_num (s : PSt) (o : OpS) : SameN s (doS s o).1 := by
 unfold doS
 by_cases e0 : okOp o
 ·rw [if_neg (fun c => c e0)]
  by_cases e1 : o.kind = 12 ∨ o.kind = 14
  ·rw [if_pos e1]; exact ⟨rfl, rfl⟩
  ·rw [if_neg e1]
   by_cases e2 : (splitR o.path.data.toList).2 = 0
   ·rw [if_neg (fun c => c e2)]
    by_cases e3 : (o.kind = 3 ∨ o.kind = 6) ∧ (splitR o.tto.data.toList).2 ≠ 0
    ·rw [if_pos e3]; exact ⟨rfl, rfl⟩
    ·rw [if_neg e3]
     by_cases k1 : o.kind = 1
     ·rw [if_pos k1]; exact make_num _ _ _ _
     ·rw [if_neg k1]
      by_cases k2 : o.kind = 2
      ·rw [if_pos k2]; exact make_num _ _ _ _
      ·rw [if_neg k2]
       by_cases k3 : o.kind = 3
       ·rw [if_pos k3]; exact link_num _ _ _
       ·rw [if_neg k3]
        by_cases k4 : o.kind = 4
        ·rw [if_pos k4]; exact unlink_num _ _
        ·rw [if_neg k4]
         by_cases k5 : o.kind = 5
         ·rw [if_pos k5]; exact rmdir_num _ _
         ·rw [if_neg k5]
          by_cases k6 : o.kind = 6
          ·rw [if_pos k6]
           exact rename_num _ _ _
          ·rw [if_neg k6]
           by_cases kw : (walkL s (namesOf o.path) 1).2 = 0
           ·rw [if_neg (fun c => c kw)]; exact at_num _ _ _
           ·rw [if_pos kw]; exact ⟨rfl, rfl⟩
   ·rw [if_pos e2]; exact ⟨rfl, rfl⟩
 ·rw [if_pos e0]; exact ⟨rfl, rfl⟩
end Go.Proofs.YtmgfilacepnjlaaGreatDoor
