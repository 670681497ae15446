/-
  package plain, as functions: what is made, linked and taken away, as functions.
-/
import Derived.Test.YthpngfmckkfipaaGreatDoorVA2
namespace Go.Proofs.YthpngfmckkfipaaGreatDoor
open Go.RowKit

/-- A block's bytes, as a row holds them. -/
def rowV : Value → List Int
  | .agg a => a.toList.map fun | .int _ n => n | _ => 0
  | _ => Zs
/-- The bytes of a file's block: zeros, where there is none. -/
def rowsN (x : Nd) (b : Nat) : List Int := match x.blk (b : Int) with | some v => rowV v | none => Zs
theorem rowV_SA (l : List Int) : rowV (.agg (SA l)) = l := by
  unfold rowV SA
  simp only [List.map_map]
  exact (List.map_congr_left (g := id) fun _ _ => rfl).trans (List.map_id _)
theorem NdOk.rows {x : Nd} (h : NdOk x) (b : Nat) : (match x.blk (b : Int) with | some v => v | none => Value.agg (SA Zs)) = .agg (SA (rowsN x b)) ∧ (rowsN x b).length = 128 ∧ ∀ c ∈ rowsN x b, 0 ≤ c ∧ c ≤ 255 := by
  unfold rowsN
  cases hb : x.blk (b : Int) with
  | none => exact ⟨rfl, by simp [Zs], fun c hc => by have := List.eq_of_mem_replicate hc; omega⟩
  | some v =>
    obtain ⟨_, l, rfl, h1, h2⟩ := h.blk _ v hb
    show Value.agg (SA l) = .agg (SA (rowV (.agg (SA l)))) ∧ (rowV (.agg (SA l))).length = 128 ∧ ∀ c ∈ rowV (.agg (SA l)), 0 ≤ c ∧ c ≤ 255
    rw [rowV_SA]
    exact ⟨rfl, h1, h2⟩
theorem mem_byte {R : Nat → List Int} (hR : ∀ b, ∀ c ∈ R b, 0 ≤ c ∧ c ≤ 255) (b k : Nat) : 0 ≤ (R b).getD k 0 ∧ (R b).getD k 0 ≤ 255 := by
  rw [List.getD_eq_getElem?_getD]
  by_cases h : k < (R b).length
  · rw [List.getElem?_eq_getElem h]
    exact hR b _ (List.getElem_mem h)
  · rw [List.getElem?_eq_none (by omega)]
    simp
theorem Inv.wrote {s : PSt} {i : Int} {x : Nd} (h : Inv s) (hx : s.nd i = some x) (hf : x.kind ≠ 2) (o : Nat) (ds : List Int) (ho : o + ds.length ≤ 136704) (hd : ∀ b ∈ ds, 0 ≤ b ∧ b ≤ 255) : Inv (s.put i (wroteM x (rowsN x) o ds)) := by
  have hN := InvD.nd h i x hx
  refine InvD.file h hx hf rfl rfl rfl rfl rfl rfl ?_ ?_
  · have := hN.size
    show 0 ≤ max x.size ((o : Int) + ds.length) ∧ max x.size ((o : Int) + ds.length) ≤ 136704
    omega
  · intro y v hv
    have hv : wblk x.blk (rowsN x) o ds ds.length y = some v := hv
    unfold wblk at hv
    by_cases hc : 0 < ds.length ∧ ((o / 128 : Nat) : Int) ≤ y ∧ 128 * y < (o : Int) + ds.length
    · rw [if_pos hc] at hv
      cases hv
      refine ⟨by omega, _, rfl, by simp [ovR], fun b hb => ?_⟩
      unfold ovR at hb
      obtain ⟨k, hk, rfl⟩ := List.mem_map.1 hb
      split
      · exact mem_byte (R := fun _ => ds) (fun _ => hd) 0 _
      · exact mem_byte (fun b => (hN.rows b).2.2) _ _
    · rw [if_neg hc] at hv
      exact hN.blk y v hv
/-- A file of another size. -/
def cutN (x : Nd) (size : Int) : Nd :=
  if x.blk (size / 128) = none ∨ size % 128 = 0 then { x with blk := fun y => if size ≤ y * 128 then none else x.blk y, size := size }
  else { x with blk := fun y => if y = size / 128 then some (.agg (SA (cutL (rowsN x (size / 128).toNat) (size % 128).toNat))) else if size ≤ y * 128 then none else x.blk y, size := size }
theorem Inv.cut {s : PSt} {i : Int} {x : Nd} (h : Inv s) (hx : s.nd i = some x) (hf : x.kind ≠ 2) (n : Int) (h0 : 0 ≤ n) (h1 : n ≤ 136704) : Inv (s.put i (cutN x n)) := by
  have hN := InvD.nd h i x hx
  unfold cutN
  by_cases e : x.blk (n / 128) = none ∨ n % 128 = 0
  · rw [if_pos e]
    refine InvD.file h hx hf rfl rfl rfl rfl rfl rfl ⟨h0, h1⟩ fun y v hv => ?_
    have hv : (if n ≤ y * 128 then none else x.blk y) = some v := hv
    by_cases c : n ≤ y * 128
    · rw [if_pos c] at hv; cases hv
    · rw [if_neg c] at hv; exact hN.blk y v hv
  · rw [if_neg e]
    refine InvD.file h hx hf rfl rfl rfl rfl rfl rfl ⟨h0, h1⟩ fun y v hv => ?_
    have hv : (if y = n / 128 then some (Value.agg (SA (cutL (rowsN x (n / 128).toNat) (n % 128).toNat))) else if n ≤ y * 128 then none else x.blk y) = some v := hv
    by_cases c : y = n / 128
    · rw [if_pos c] at hv
      cases hv
      have hr := (hN.rows (n / 128).toNat).2
      have hb : x.blk (n / 128) ≠ none := fun e2 => e (.inl e2)
      obtain ⟨u, hu⟩ := Option.ne_none_iff_exists'.1 hb
      have := (hN.blk _ u hu).1
      refine ⟨by omega, _, rfl, ?_, fun b hb => ?_⟩
      · unfold cutL
        rw [List.length_append, List.length_take, List.length_replicate, hr.1]
        omega
      · unfold cutL at hb
        rcases List.mem_append.1 hb with hb | hb
        · exact hr.2 b (List.mem_of_mem_take hb)
        · have := List.eq_of_mem_replicate hb
          omega
    · rw [if_neg c] at hv
      by_cases c2 : n ≤ y * 128
      · rw [if_pos c2] at hv; cases hv
      · rw [if_neg c2] at hv; exact hN.blk y v hv
theorem freeFrom_at {s : PSt} : ∀ (n i j : Nat), i ≤ j → j < i + n → s.nd (j : Int) = none → s.nd (freeFrom s n i : Nat) = none ∧ i ≤ freeFrom s n i ∧ freeFrom s n i ≤ j
  | 0, i, j, h1, h2, _ => by omega
  | n + 1, i, j, h1, h2, hj => by
    unfold freeFrom
    cases hi : s.nd (i : Int) with
    | none => exact ⟨hi, Nat.le_refl _, h1⟩
    | some x =>
      have hne : i ≠ j := fun e => by rw [e, hj] at hi; cases hi
      have := freeFrom_at (s := s) n (i + 1) j (by omega) (by omega) hj
      simp only [Option.isSome_some, if_true]
      exact ⟨this.1, by omega, this.2.2⟩
theorem count_upto (m : Nat) : ∀ n : Nat, m < n → ((List.range n).filter fun i => decide (1 ≤ i ∧ i ≤ m)).length = m
  | 0, h => by omega
  | n + 1, h => by
    rw [List.range_succ, List.filter_append, List.length_append]
    by_cases e : m = n
    · subst e
      have : ((List.range m).filter fun i => decide (1 ≤ i ∧ i ≤ m)) = (List.range m).filter fun i => decide (1 ≤ i) := List.filter_congr fun i hi => by
        have := List.mem_range.1 hi
        simp
        omega
      rw [this]
      have h2 : ∀ k : Nat, ((List.range k).filter fun i => decide (1 ≤ i)).length = k - 1 := fun k => by
        induction k with
        | zero => rfl
        | succ k ih =>
          rw [List.range_succ, List.filter_append, List.length_append, ih]
          by_cases h0 : 1 ≤ k
          · simp [h0]
          · have : k = 0 := by omega
            subst this
            rfl
      rw [h2]
      by_cases h0 : 1 ≤ m
      · simp [h0]
      · have : m = 0 := by omega
        subst this
        rfl
    · rw [count_upto m n (by omega)]
      have : ¬ n ≤ m := by omega
      simp [this]
theorem Inv.few {s : PSt} (h : Inv s) : (nodesN s : Int) ≤ s.ino := by
  obtain ⟨m, hm⟩ : ∃ m : Nat, s.ino = (m : Int) := ⟨s.ino.toNat, by have := InvD.num h; omega⟩
  have h1 := count_upto m 513 (by have := InvD.num h; omega)
  have h2 : nodesN s ≤ ((List.range 513).filter fun i => decide (1 ≤ i ∧ i ≤ m)).length := by
    unfold nodesN
    rw [← List.countP_eq_length_filter, ← List.countP_eq_length_filter]
    refine List.countP_mono_left fun i _ hi => ?_
    obtain ⟨x, hx⟩ := Option.isSome_iff_exists.1 hi
    have := InvD.rng h _ x hx
    simp
    omega
  omega
theorem Inv.free {s : PSt} (h : Inv s) (hn : (nodesN s : Int) ≠ s.ino) : s.nd (freeI s : Nat) = none ∧ 2 ≤ freeI s ∧ (freeI s : Int) ≤ s.ino := by
  obtain ⟨m, hm⟩ : ∃ m : Nat, s.ino = (m : Int) := ⟨s.ino.toNat, by have := InvD.num h; omega⟩
  have hm2 : m ≤ 512 := by have := InvD.num h; omega
  have hex : ∃ j : Nat, 1 ≤ j ∧ j ≤ m ∧ s.nd (j : Int) = none := by
    refine Classical.byContradiction fun hc => hn ?_
    have h1 := count_upto m 513 (by omega)
    have : nodesN s = ((List.range 513).filter fun i => decide (1 ≤ i ∧ i ≤ m)).length := by
      unfold nodesN
      refine congrArg List.length (List.filter_congr fun i hi => ?_)
      by_cases hr : 1 ≤ i ∧ i ≤ m
      · have : s.nd (i : Int) ≠ none := fun e => hc ⟨i, hr.1, hr.2, e⟩
        rw [decide_eq_true hr]
        exact Option.isSome_iff_ne_none.2 this
      · rw [decide_eq_false hr]
        cases hx : s.nd (i : Int) with
        | none => rfl
        | some x =>
          have := InvD.rng h _ x hx
          exact absurd ⟨by omega, by omega⟩ hr
    omega
  obtain ⟨j, h1, h2, h3⟩ := hex
  obtain ⟨a1, a2, a3⟩ := freeFrom_at 512 1 j h1 (by omega) h3
  have a0 : freeI s = freeFrom s 512 1 := rfl
  rw [a0]
  refine ⟨a1, ?_, by omega⟩
  obtain ⟨x, hx, _⟩ := InvD.root h
  rcases Nat.lt_or_ge 1 (freeFrom s 512 1) with h | h
  · exact h
  · have : freeFrom s 512 1 = 1 := by omega
    rw [this] at a1
    rw [show ((1 : Nat) : Int) = 1 from rfl, hx] at a1
    cases a1
end Go.Proofs.YthpngfmckkfipaaGreatDoor

namespace Go.Proofs.YthpngfmckkfipaaGreatDoor
open Go.RowKit

/-- What is answered. -/
inductive Ans where
  | err (e : Int)
  | stat (i : Int) (x : Nd)
  | data (ds : List Int)
  | list (es : List (ByteArray × Int × Int))
noncomputable def makeOp (s : PSt) (ls : List ByteArray) (kind made : Int) : PSt × Ans :=
  if lastE s ls ≠ 0 then (s, .err (lastE s ls)) else match s.nd (lastD s ls) with
    | none => (s, .err 0)
    | some x => if (findN x (lastN ls)).isSome then (s, .err 111) else if (nodesN s : Int) = s.ino then (s, .err 81) else if (placeL s x).2 ≠ 0 then (s, .err (placeL s x).2)
      else (makeS s (lastD s ls) x (least0 x.sl) (lastN ls) (freeI s : Nat) kind made, .stat (freeI s : Nat) (newNd kind made))
noncomputable def linkOp (s : PSt) (ls ts : List ByteArray) : PSt × Int :=
  if (walkL s ls 1).2 ≠ 0 then (s, (walkL s ls 1).2) else if lastE s ts ≠ 0 then (s, lastE s ts) else match s.nd (lastD s ts), s.nd (walkL s ls 1).1 with
    | some x, some y => if (findN x (lastN ts)).isSome then (s, 111) else if y.kind = 2 then (s, 102) else if y.links = 100 then (s, 142) else if (placeL s x).2 ≠ 0 then (s, (placeL s x).2)
      else ((s.put (walkL s ls 1).1 { y with links := y.links + 1 }).put (lastD s ts) (entN x (least0 x.sl) (lastN ts) (walkL s ls 1).1), 0)
    | _, _ => (s, 0)
def unlinkOp (s : PSt) (ls : List ByteArray) : PSt × Int :=
  if lastE s ls ≠ 0 then (s, lastE s ls) else match s.nd (lastD s ls) with
    | none => (s, 0)
    | some x => match x.nm (lastN ls) with
      | none => (s, 110)
      | some k => match s.nd (x.sl.getD k.toNat 0) with
        | none => (s, 0)
        | some y => if y.kind = 2 then (s, 102) else (loseS (s.put (lastD s ls) (leaN x k.toNat (lastN ls))) (x.sl.getD k.toNat 0) y, 0)
open Classical in
noncomputable def rmdirOp (s : PSt) (ls : List ByteArray) : PSt × Int :=
  if lastE s ls ≠ 0 then (s, lastE s ls) else match s.nd (lastD s ls) with
    | none => (s, 0)
    | some x => match x.nm (lastN ls) with
      | none => (s, 110)
      | some k => match s.nd (x.sl.getD k.toNat 0) with
        | none => (s, 0)
        | some y => if y.kind ≠ 2 then (s, 113) else if ∃ t, y.nm t ≠ none then (s, 140) else (loseS (s.put (lastD s ls) (leaN x k.toNat (lastN ls))) (x.sl.getD k.toNat 0) y, 0)
/-- A name is another one's, in the place of a file. -/
def replS (s : PSt) (d1 d2 : Int) (n1 n2 : ByteArray) (x2 : Nd) (k2 : Nat) (i j : Int) : PSt :=
  match (s.put d2 (entO x2 k2 n2 i)).nd d1 with
  | none => s
  | some x1 => match ((s.put d2 (entO x2 k2 n2 i)).put d1 (leaN x1 ((x1.nm n1).getD 0).toNat n1)).nd j with
    | none => s
    | some y => loseS ((s.put d2 (entO x2 k2 n2 i)).put d1 (leaN x1 ((x1.nm n1).getD 0).toNat n1)) j y
/-- A name is a new one. -/
def moveS (s : PSt) (d1 d2 : Int) (n1 n2 : ByteArray) (x2 : Nd) (i : Int) : PSt :=
  match (s.put d2 (entN x2 (least0 x2.sl) n2 i)).nd d1 with
  | none => s
  | some x1 => (s.put d2 (entN x2 (least0 x2.sl) n2 i)).put d1 (leaN x1 ((x1.nm n1).getD 0).toNat n1)
noncomputable def renameOp (s : PSt) (ls ts : List ByteArray) : PSt × Int :=
  if lastE s ls ≠ 0 then (s, lastE s ls) else if lastE s ts ≠ 0 then (s, lastE s ts) else match s.nd (lastD s ls), s.nd (lastD s ts) with
    | some x1, some x2 => match findN x1 (lastN ls) with
      | none => (s, 110)
      | some i => if lastD s ts = lastD s ls ∧ lastN ts = lastN ls then (s, 0) else match s.nd i with
        | none => (s, 0)
        | some yi => match findN x2 (lastN ts) with
          | some j => match s.nd j with
            | none => (s, 0)
            | some yj => if yi.kind = 2 ∨ yj.kind = 2 then (s, 111) else if j = i then (s, 0) else if yi.links = 100 then (s, 142) else (replS s (lastD s ls) (lastD s ts) (lastN ls) (lastN ts) x2 ((x2.nm (lastN ts)).getD 0).toNat i j, 0)
          | none => if yi.kind = 2 ∧ belowB ts ls = true then (s, 141) else if yi.links = 100 then (s, 142) else if (placeL s x2).2 ≠ 0 then (s, (placeL s x2).2) else (moveS s (lastD s ls) (lastD s ts) (lastN ls) (lastN ts) x2 i, 0)
    | _, _ => (s, 0)
theorem place_ok {s : PSt} {x : Nd} (h : (placeL s x).2 = 0) : placeL s x = (((least0 x.sl : Nat) : Int), 0) ∧ (least0 x.sl ≠ 1068) := by
  unfold placeL at h ⊢
  by_cases e : least0 x.sl = 1068
  · rw [if_pos e] at h; exact absurd h (by decide)
  · rw [if_neg e] at h ⊢
    by_cases e2 : roomB s x (least0 x.sl) (least0 x.sl + 1) = true
    · rw [if_pos e2]; exact ⟨rfl, e⟩
    · rw [if_neg e2] at h; exact absurd h (by decide)
theorem NdOk.place {s : PSt} {x : Nd} (h : NdOk x) (hp : (placeL s x).2 = 0) : least0 x.sl < 1068 := by
  have := (place_ok hp).2
  have := least0_le x.sl
  have := h.len
  omega
theorem lastE_ne {s : PSt} {ls : List ByteArray} (h : lastE s ls = 0) : ls ≠ [] := by
  intro e
  unfold lastE at h
  rw [if_pos e] at h
  exact absurd h (by decide)
theorem lastN_mem {ls : List ByteArray} (h : ls ≠ []) : lastN ls ∈ ls := by
  have := List.length_pos_iff.2 h
  unfold lastN
  rw [List.getD_eq_getElem?_getD, List.getElem?_eq_getElem (by omega)]
  exact List.getElem_mem _
theorem find_none {x : Nd} {t : ByteArray} (h : findN x t = none) : x.nm t = none := by
  unfold findN at h
  cases hn : x.nm t with
  | none => rfl
  | some k => rw [hn] at h; cases h
theorem find_some {x : Nd} {t : ByteArray} {i : Int} (hN : NdOk x) (h : findN x t = some i) : ∃ k : Nat, x.nm t = some (k : Int) ∧ x.sl.getD k 0 = i ∧ k < x.sl.length ∧ i ≠ 0 := by
  unfold findN at h
  cases hn : x.nm t with
  | none => rw [hn] at h; cases h
  | some k =>
    rw [hn] at h
    have h : x.sl.getD k.toNat 0 = i := Option.some.inj h
    obtain ⟨a1, a2, a3⟩ := hN.nm t k hn
    refine ⟨k.toNat, ?_, h, by omega, ?_⟩
    · congr 1; omega
    · rw [← h]; exact a3
theorem Inv.makeOp {s : PSt} {ls : List ByteArray} {kind made : Int} (h : Inv s) (hn : ∀ t ∈ ls, NmOk t) (hk : kind = 1 ∨ kind = 2) (hm : 0 ≤ made ∧ made ≤ 1099511627776) : Inv (makeOp s ls kind made).1 := by
  unfold Go.Proofs.YthpngfmckkfipaaGreatDoor.makeOp
  by_cases e : lastE s ls = 0
  · rw [if_neg (fun c => c e)]
    obtain ⟨x, hx, hx2⟩ := lastE_dir e
    rw [hx]
    simp only
    cases hf : findN x (lastN ls) with
    | some i => exact h
    | none =>
      rw [if_neg (by simp)]
      by_cases hc : (nodesN s : Int) = s.ino
      · rw [if_pos hc]; exact h
      · rw [if_neg hc]
        by_cases hp : (placeL s x).2 = 0
        · rw [if_neg (fun c => c hp)]
          obtain ⟨f1, f2, f3⟩ := Inv.free h hc
          have hN := InvD.nd h _ x hx
          have h1 := InvD.new h f1 (by omega) f3 hk hm
          have hd : (s.put (freeI s : Nat) (newNd kind made)).nd (lastD s ls) = some x := by
            rw [PSt.put_ne _ _ (fun e => by rw [e, f1] at hx; cases hx)]
            exact hx
          have h2 := h1.enter (i := (freeI s : Nat)) hd hx2 (find_none hf) (free_least x.sl) (hN.place hp) (by omega) (by rw [PSt.put_at]; exact fun e => by cases e) (hn _ (lastN_mem (lastE_ne e)))
          exact h2.cong fun j => by
            by_cases c : ((freeI s : Nat) : Int) = j
            · rw [if_pos c, if_pos c]; rfl
            · rw [if_neg c, if_neg c]
        · rw [if_pos hp]; exact h
  · rw [if_pos e]; exact h
theorem Inv.walk {s : PSt} (h : Inv s) {ls : List ByteArray} (e : (walkL s ls 1).2 = 0) : ∃ y, s.nd (walkL s ls 1).1 = some y :=
  Option.ne_none_iff_exists'.1 (walkL_some (InvD.okS h) ls 1 (InvD.okS h).root e)
theorem Inv.linkOp {s : PSt} {ls ts : List ByteArray} (h : Inv s) (hn : ∀ t ∈ ts, NmOk t) : Inv (linkOp s ls ts).1 := by
  unfold Go.Proofs.YthpngfmckkfipaaGreatDoor.linkOp
  by_cases e1 : (walkL s ls 1).2 = 0
  · rw [if_neg (fun c => c e1)]
    by_cases e : lastE s ts = 0
    · rw [if_neg (fun c => c e)]
      obtain ⟨x, hx, hx2⟩ := lastE_dir e
      obtain ⟨y, hy⟩ := Inv.walk h e1
      rw [hx, hy]
      simp only
      cases hf : findN x (lastN ts) with
      | some i => exact h
      | none =>
        rw [if_neg (by simp)]
        by_cases hk : y.kind = 2
        · rw [if_pos hk]; exact h
        · rw [if_neg hk]
          by_cases hl : y.links = 100
          · rw [if_pos hl]; exact h
          · rw [if_neg hl]
            by_cases hp : (placeL s x).2 = 0
            · rw [if_neg (fun c => c hp)]
              have hN := InvD.nd h _ x hx
              have hNy := InvD.nd h _ y hy
              have hri := InvD.rng h _ y hy
              have hi1 : (walkL s ls 1).1 ≠ 1 := fun c => by
                obtain ⟨r, hr, hr2⟩ := InvD.root h
                rw [c, hr] at hy
                cases hy
                exact hk hr2.1
              have h1 := InvD.linked (y.links + 1) h hy (by omega) (by have := hNy.links; omega)
              have hne : lastD s ts ≠ (walkL s ls 1).1 := fun c => by
                rw [c, hy] at hx
                cases hx
                exact hk hx2
              have hd : (s.put (walkL s ls 1).1 { y with links := y.links + 1 }).nd (lastD s ts) = some x := by rw [PSt.put_ne _ _ hne]; exact hx
              have h2 := h1.enter (i := (walkL s ls 1).1) hd hx2 (find_none hf) (free_least x.sl) (hN.place hp) (by omega) (by rw [PSt.put_at]; exact fun e => by cases e) (hn _ (lastN_mem (lastE_ne e)))
              exact h2.cong fun j => by
                by_cases c : (walkL s ls 1).1 = j
                · rw [if_pos c, if_pos c]; omega
                · rw [if_neg c, if_neg c]
            · rw [if_pos hp]; exact h
    · rw [if_pos e]; exact h
  · rw [if_pos e1]; exact h
theorem Inv.takes {s : PSt} {d : Int} {x y : Nd} {t : ByteArray} {k : Nat} (h : Inv s) (hx : s.nd d = some x) (hk : x.kind = 2) (hn : x.nm t = some (k : Int)) (hy : s.nd (x.sl.getD k 0) = some y) (hz : ∀ u, y.nm u = none) : Inv (loseS (s.put d (leaN x k t)) (x.sl.getD k 0) y) := by
  have hN := InvD.nd h d x hx
  obtain ⟨n1, n2, n3⟩ := hN.nm t k hn
  rw [Int.toNat_natCast] at n3
  have h1 := InvD.leave h hx hk hn
  have hne : x.sl.getD k 0 ≠ d := fun e => by
    rw [e, hx] at hy
    cases hy
    rw [hz] at hn
    cases hn
  have hr := InvD.ref h d x _ hx (getD_mem (l := x.sl) (k := k) (by omega)) n3
  have hy2 : (s.put d (leaN x k t)).nd (x.sl.getD k 0) = some y := by rw [PSt.put_ne _ _ hne]; exact hy
  have hNy := InvD.nd h _ y hy
  have h2 := h1.lose hy2 hr.1 (by show (0 : Int) + (if x.sl.getD k 0 = x.sl.getD k 0 then 1 else 0) = 1; rw [if_pos rfl]; rfl) (fun _ j hj => by
    refine Classical.byContradiction fun hj0 => ?_
    obtain ⟨m, hm1, hm2⟩ := mem_getD hj
    obtain ⟨u, hu⟩ := hNy.sur m hm1 (by rw [hm2]; exact hj0)
    rw [hz] at hu
    cases hu)
  exact h2.cong fun j => by
    by_cases c : x.sl.getD k 0 = j
    · rw [if_pos c, if_pos c]; rfl
    · rw [if_neg c, if_neg c]; rfl
theorem Inv.unlinkOp {s : PSt} {ls : List ByteArray} (h : Inv s) : Inv (unlinkOp s ls).1 := by
  unfold Go.Proofs.YthpngfmckkfipaaGreatDoor.unlinkOp
  by_cases e : lastE s ls = 0
  · rw [if_neg (fun c => c e)]
    obtain ⟨x, hx, hx2⟩ := lastE_dir e
    rw [hx]
    simp only
    cases hk : x.nm (lastN ls) with
    | none => exact h
    | some k =>
      simp only
      cases hy : s.nd (x.sl.getD k.toNat 0) with
      | none => exact h
      | some y =>
        simp only
        by_cases hy2 : y.kind = 2
        · rw [if_pos hy2]; exact h
        · rw [if_neg hy2]
          have hN := InvD.nd h _ x hx
          have hNy := InvD.nd h _ y hy
          exact Inv.takes h hx hx2 (by rw [hk]; congr 1; have := (hN.nm _ k hk).1; omega) hy (hNy.file (by have := hNy.kind; omega)).2
  · rw [if_pos e]; exact h
theorem Inv.rmdirOp {s : PSt} {ls : List ByteArray} (h : Inv s) : Inv (rmdirOp s ls).1 := by
  unfold Go.Proofs.YthpngfmckkfipaaGreatDoor.rmdirOp
  by_cases e : lastE s ls = 0
  · rw [if_neg (fun c => c e)]
    obtain ⟨x, hx, hx2⟩ := lastE_dir e
    rw [hx]
    simp only
    cases hk : x.nm (lastN ls) with
    | none => exact h
    | some k =>
      simp only
      cases hy : s.nd (x.sl.getD k.toNat 0) with
      | none => exact h
      | some y =>
        simp only
        by_cases hy2 : y.kind = 2
        · rw [if_neg (fun c => c hy2)]
          by_cases hz : ∃ t, y.nm t ≠ none
          · rw [if_pos hz]; exact h
          · rw [if_neg hz]
            have hN := InvD.nd h _ x hx
            exact Inv.takes h hx hx2 (by rw [hk]; congr 1; have := (hN.nm _ k hk).1; omega) hy (fun u => Classical.byContradiction fun c => hz ⟨u, c⟩)
        · rw [if_pos hy2]; exact h
  · rw [if_pos e]; exact h
end Go.Proofs.YthpngfmckkfipaaGreatDoor
