/-
  Bytes that are read, as pure functions: what the reader takes, and what the document's parts take.
-/
import Derived.Test.YtiakfgplhdbaeaaRE
import Derived.Test.YtiakfgplhdbaeaaBY
namespace Go.Proofs.Ytiakfgplhdbaeaa
open Go.RowKit

def okB (zs : List Int) : Prop := ∀ y ∈ zs, 0 ≤ y ∧ y ≤ 255
theorem okB.take {zs : List Int} (h : okB zs) (k : Nat) : okB (zs.take k) := fun y hy => h y (List.mem_of_mem_take hy)
theorem okB.drop {zs : List Int} (h : okB zs) (k : Nat) : okB (zs.drop k) := fun y hy => h y (List.mem_of_mem_drop hy)
def numZ (k : Nat) (zs : List Int) (s : Bool) : Int × List Int × Bool := if zs.length < k then (0, zs, true) else (wrap64 (valB (zs.take k)), zs.drop k, s)
def takZ (n : Int) (zs : List Int) (s : Bool) : List Int × List Int × Bool := if (zs.length : Int) < n then ([], zs, true) else (zs.take n.toNat, zs.drop n.toNat, s)
def lisZ (zs : List Int) (s : Bool) : List Int × List Int × Bool := takZ (numZ 4 zs s).1 (numZ 4 zs s).2.1 (numZ 4 zs s).2.2
/-- What the reader makes of bytes: a node, what is left, whether they were too few. -/
def nodZ (zs : List Int) : Nod × List Int × Bool :=
  let k := numZ 1 zs false
  let m := numZ 8 k.2.1 k.2.2
  let p := lisZ m.2.1 m.2.2
  let q := lisZ p.2.1 p.2.2
  let d := lisZ q.2.1 q.2.2
  (⟨strOf p.1, k.1, m.1, strOf q.1, none, d.1, 0⟩, d.2.1, d.2.2)
/-- The document's text: a length and so many bytes. -/
def txtZ (most : Int) (zs : List Int) : Option (List Int × List Int) :=
  if zs.length < 4 then none else if most < valB (zs.take 4) ∨ ((zs.drop 4).length : Int) < valB (zs.take 4) then none else some ((zs.drop 4).take (valB (zs.take 4)).toNat, (zs.drop 4).drop (valB (zs.take 4)).toNat)
/-- The document's node. -/
def oneZ (zs : List Int) : Option (Nod × List Int) :=
  if zs.length < 9 ∨ ¬ (zs.getD 0 0 = 1 ∨ zs.getD 0 0 = 2) ∨ 1099511627776 < valB ((zs.drop 1).take 8) then none
  else match txtZ 400 (zs.drop 9) with
    | none => none
    | some (p, r1) => match txtZ 400 r1 with
      | none => none
      | some (q, r2) => match txtZ 136704 r2 with
        | none => none
        | some (d, r3) => some (⟨strOf p, zs.getD 0 0, valB ((zs.drop 1).take 8), strOf q, none, d, 0⟩, r3)
theorem num_val : ∀ ys : List Int, okB ys → numB (valB ys) ys.length = ys
  | [], _ => rfl
  | y :: l, h => by
    have h1 := h y (List.mem_cons_self ..)
    have h2 := (val_rng l (fun z hz => h z (List.mem_cons_of_mem _ hz))).1
    show (y + 256 * valB l) % 256 :: numB ((y + 256 * valB l) / 256) l.length = y :: l
    rw [show (y + 256 * valB l) % 256 = y by omega, show (y + 256 * valB l) / 256 = valB l by omega, num_val l (fun z hz => h z (List.mem_cons_of_mem _ hz))]
theorem bytes_str {c : List Int} (h : okB c) : bytesI (strOf c) = c := by
  unfold bytesI strOf
  simp only [List.map_map]
  conv => rhs; rw [← List.map_id c]
  apply List.map_congr_left
  intro y hy
  have := h y hy
  simp only [Function.comp_apply, id_eq, UInt8.toNat_ofNat']
  omega
theorem str_size (c : List Int) : (strOf c).size = c.length := by simp [strOf, ByteArray.size]
theorem p4 : (256 : Int) ^ 4 = 4294967296 := by decide
theorem val4 {zs : List Int} (h : okB zs) (hl : 4 ≤ zs.length) : 0 ≤ valB (zs.take 4) ∧ valB (zs.take 4) < 4294967296 := by
  have := val_rng (zs.take 4) (h.take 4)
  rw [show (zs.take 4).length = 4 by rw [List.length_take]; omega, p4] at this
  exact this
theorem txt_some {most : Int} {zs p r : List Int} (h : okB zs) (e : txtZ most zs = some (p, r)) : zs = numB (p.length : Nat) 4 ++ (p ++ r) ∧ (p.length : Int) ≤ most ∧ okB p ∧ okB r := by
  unfold txtZ at e
  split at e
  · cases e
  · rename_i hl
    split at e
    · cases e
    · rename_i hn
      have hv := val4 h (by omega)
      cases e
      have hlen : ((zs.drop 4).take (valB (zs.take 4)).toNat).length = (valB (zs.take 4)).toNat := by rw [List.length_take]; omega
      refine ⟨?_, by rw [hlen]; omega, (h.drop 4).take _, (h.drop 4).drop _⟩
      rw [hlen, List.take_append_drop, show ((valB (zs.take 4)).toNat : Int) = valB (zs.take 4) by omega]
      have := num_val (zs.take 4) (h.take 4)
      rw [show (zs.take 4).length = 4 by rw [List.length_take]; omega] at this
      rw [this, List.take_append_drop]
theorem one_some {zs r : List Int} {n : Nod} (h : okB zs) (e : oneZ zs = some (n, r)) : zs = nodeB n ++ r ∧ fitsB n = true ∧ okB r := by
  unfold oneZ at e
  split at e
  · cases e
  · rename_i h0
    have h9 : 9 ≤ zs.length := by omega
    cases e1 : txtZ 400 (zs.drop 9) with
    | none => rw [e1] at e; cases e
    | some x1 =>
      obtain ⟨p, r1⟩ := x1
      rw [e1] at e
      obtain ⟨t1, t2, t3, t4⟩ := txt_some (h.drop 9) e1
      cases e2 : txtZ 400 r1 with
      | none => simp only [e2] at e; cases e
      | some x2 =>
        obtain ⟨q, r2⟩ := x2
        simp only [e2] at e
        obtain ⟨u1, u2, u3, u4⟩ := txt_some t4 e2
        cases e3 : txtZ 136704 r2 with
        | none => simp only [e3] at e; cases e
        | some x3 =>
          obtain ⟨d, r3⟩ := x3
          simp only [e3] at e
          obtain ⟨v1, v2, v3, v4⟩ := txt_some u4 e3
          cases e
          have hv := val_rng ((zs.drop 1).take 8) ((h.drop 1).take 8)
          refine ⟨?_, ?_, v4⟩
          · cases zs with
            | nil => simp at h9
            | cons z l =>
              have hz := h z (List.mem_cons_self ..)
              have hm := num_val (l.take 8) (fun y hy => h y (List.mem_cons_of_mem _ (List.mem_of_mem_take hy)))
              rw [show (l.take 8).length = 8 by rw [List.length_take]; simp at h9; omega] at hm
              have t1 : l.drop 8 = _ := t1
              have hd : l = l.take 8 ++ l.drop 8 := (List.take_append_drop 8 l).symm
              show z :: l = _
              unfold nodeB
              simp only [List.getD_cons_zero, List.drop_succ_cons, List.drop_zero, str_size, bytes_str t3, bytes_str u3]
              rw [hm]
              show z :: l = (z % 256 :: numB (z / 256) 0) ++ _ ++ _
              rw [show z % 256 = z by omega]
              conv => lhs; rw [hd, t1, u1, v1]
              simp [numB]
          · unfold fitsB inB
            simp only [str_size, Bool.and_eq_true, decide_eq_true_eq]
            have h0k : zs.getD 0 0 = 1 ∨ zs.getD 0 0 = 2 := Classical.byContradiction fun hk => h0 (.inr (.inl hk))
            exact ⟨⟨⟨h0k, by omega, by omega, by omega⟩, by omega⟩, by omega⟩
/-- Once they were too few, that stays. -/
theorem num_short (k : Nat) (zs : List Int) : (numZ k zs true).2.2 = true := by unfold numZ; split <;> rfl
theorem tak_short (k : Int) (zs : List Int) : (takZ k zs true).2.2 = true := by unfold takZ; split <;> rfl
theorem lis_short (zs : List Int) : (lisZ zs true).2.2 = true := by unfold lisZ; rw [num_short]; exact tak_short _ _
theorem lis_true {zs : List Int} {s : Bool} (h : s = true) : (lisZ zs s).2.2 = true := by rw [h]; exact lis_short _
theorem w64s (v : Int) (h0 : 0 ≤ v) (h1 : v < 4294967296) : wrap64 v = v := w64 v ⟨by omega, by omega⟩
/-- A list that the reader takes, beside the document's text. -/
theorem lis_txt {zs : List Int} (most : Int) (h : okB zs) : (txtZ most zs = none → (lisZ zs false).2.2 = true ∨ most < ((lisZ zs false).1.length : Int)) ∧ ∀ p r, txtZ most zs = some (p, r) → lisZ zs false = (p, r, false) := by
  unfold txtZ lisZ numZ
  by_cases hl : zs.length < 4
  · rw [if_pos hl]
    exact ⟨fun _ => .inl (by rw [if_pos hl]; exact tak_short _ _), fun _ _ e => by cases e⟩
  · rw [if_neg hl, if_neg hl]
    have hv := val4 h (by omega)
    simp only [w64s _ hv.1 hv.2]
    unfold takZ
    by_cases hn : ((zs.drop 4).length : Int) < valB (zs.take 4)
    · rw [if_pos (.inr hn), if_pos hn]
      exact ⟨fun _ => .inl rfl, fun _ _ e => by cases e⟩
    · rw [if_neg hn]
      by_cases hm : most < valB (zs.take 4)
      · rw [if_pos (.inl hm)]
        refine ⟨fun _ => .inr ?_, fun _ _ e => by cases e⟩
        show most < (((zs.drop 4).take _).length : Int)
        rw [List.length_take]
        omega
      · rw [if_neg (by omega)]
        exact ⟨fun e => (by cases e), fun p r e => (by cases e; rfl)⟩
theorem wrap_big (v : Int) (h0 : 0 ≤ v) (h1 : v < 18446744073709551616) : (v ≤ 1099511627776 → wrap64 v = v) ∧ (1099511627776 < v → ¬ (0 ≤ wrap64 v ∧ wrap64 v ≤ 1099511627776)) := by
  unfold wrap64
  omega
theorem not_fits {n : Nod} (h : ¬ ((n.kind = 1 ∨ n.kind = 2) ∧ (0 ≤ n.made ∧ n.made ≤ 1099511627776) ∧ n.path.size ≤ 400 ∧ n.same.size ≤ 400 ∧ n.data.length ≤ 136704)) : fitsB n = false := by
  cases hf : fitsB n with
  | false => rfl
  | true =>
    unfold fitsB inB at hf
    simp only [Bool.and_eq_true, decide_eq_true_eq] at hf
    exact absurd ⟨hf.1.1.1, ⟨hf.1.1.2.1, hf.1.1.2.2.1⟩, hf.1.2, hf.2, hf.1.1.2.2.2⟩ h
/-- What the reader makes of bytes is the document's node, or it may not be. -/
theorem nod_one {zs : List Int} (h : okB zs) : (oneZ zs = none → (nodZ zs).2.2 = true ∨ fitsB (nodZ zs).1 = false) ∧ ∀ n r, oneZ zs = some (n, r) → nodZ zs = (n, r, false) := by
  by_cases h9 : zs.length < 9
  · have e : oneZ zs = none := by unfold oneZ; rw [if_pos (.inl h9)]
    rw [e]
    refine ⟨fun _ => .inl ?_, fun _ _ e => by cases e⟩
    have hs : (numZ 8 (numZ 1 zs false).2.1 (numZ 1 zs false).2.2).2.2 = true := by
      by_cases h1 : zs.length < 1
      · have : (numZ 1 zs false).2.2 = true := by unfold numZ; rw [if_pos h1]
        rw [this]
        exact num_short _ _
      · have : (numZ 1 zs false).2.1 = zs.drop 1 := by unfold numZ; rw [if_neg h1]
        rw [this]
        unfold numZ
        rw [if_pos (by rw [List.length_drop]; omega)]
    unfold nodZ
    exact lis_true (lis_true (lis_true hs))
  · have hk : numZ 1 zs false = (zs.getD 0 0, zs.drop 1, false) := by
      unfold numZ
      rw [if_neg (by omega)]
      cases zs with
      | nil => simp at h9
      | cons z l =>
        have hz := h z (List.mem_cons_self ..)
        simp only [List.take_succ_cons, List.take_zero, valB, List.getD_cons_zero]
        rw [w64 _ ⟨by omega, by omega⟩]
        simp
    have hv := val_rng ((zs.drop 1).take 8) ((h.drop 1).take 8)
    rw [show ((zs.drop 1).take 8).length = 8 by rw [List.length_take, List.length_drop]; omega, show (256 : Int) ^ 8 = 18446744073709551616 by decide] at hv
    have hm : numZ 8 (zs.drop 1) false = (wrap64 (valB ((zs.drop 1).take 8)), zs.drop 9, false) := by
      unfold numZ
      rw [if_neg (by rw [List.length_drop]; omega), List.drop_drop]
    have hw := wrap_big _ hv.1 hv.2
    have hN : nodZ zs = (⟨strOf (lisZ (zs.drop 9) false).1, zs.getD 0 0, wrap64 (valB ((zs.drop 1).take 8)), strOf (lisZ (lisZ (zs.drop 9) false).2.1 (lisZ (zs.drop 9) false).2.2).1, none, (lisZ (lisZ (lisZ (zs.drop 9) false).2.1 (lisZ (zs.drop 9) false).2.2).2.1 (lisZ (lisZ (zs.drop 9) false).2.1 (lisZ (zs.drop 9) false).2.2).2.2).1, 0⟩, (lisZ (lisZ (lisZ (zs.drop 9) false).2.1 (lisZ (zs.drop 9) false).2.2).2.1 (lisZ (lisZ (zs.drop 9) false).2.1 (lisZ (zs.drop 9) false).2.2).2.2).2) := by
      unfold nodZ
      simp only [hk, hm]
    have hok := h.drop 9
    have hO : oneZ zs = if ¬ (zs.getD 0 0 = 1 ∨ zs.getD 0 0 = 2) ∨ 1099511627776 < valB ((zs.drop 1).take 8) then none
        else match txtZ 400 (zs.drop 9) with
          | none => none
          | some (p, r1) => match txtZ 400 r1 with
            | none => none
            | some (q, r2) => match txtZ 136704 r2 with
              | none => none
              | some (d, r3) => some (⟨strOf p, zs.getD 0 0, valB ((zs.drop 1).take 8), strOf q, none, d, 0⟩, r3) := by
      unfold oneZ
      by_cases hc : ¬ (zs.getD 0 0 = 1 ∨ zs.getD 0 0 = 2) ∨ 1099511627776 < valB ((zs.drop 1).take 8)
      · rw [if_pos (.inr hc), if_pos hc]
      · rw [if_neg (by omega), if_neg hc]
    rw [hN, hO]
    clear hN hO hk hm h
    generalize zs.getD 0 0 = kd
    generalize valB ((zs.drop 1).take 8) = md at hv hw ⊢
    generalize zs.drop 9 = r0 at hok ⊢
    by_cases hc : ¬ (kd = 1 ∨ kd = 2) ∨ 1099511627776 < md
    · rw [if_pos hc]
      refine ⟨fun _ => .inr (not_fits fun hf => ?_), fun _ _ e => by cases e⟩
      have hf1 := hf.1
      have hf2 := hf.2.1
      simp only at hf1 hf2
      rcases hc with hc | hc
      · exact hc hf1
      · exact hw.2 hc hf2
    · rw [if_neg hc]
      have l1 := lis_txt 400 hok
      cases e1 : txtZ 400 r0 with
      | none =>
        refine ⟨fun _ => ?_, fun _ _ e => by cases e⟩
        rcases l1.1 e1 with h1 | h1
        · exact .inl (lis_true (lis_true h1))
        · exact .inr (not_fits fun hf => by have := hf.2.2.1; rw [str_size] at this; omega)
      | some x1 =>
        obtain ⟨p, r1⟩ := x1
        have k1 := l1.2 p r1 e1
        have hok1 := (txt_some hok e1).2.2.2
        simp only [k1]
        have l2 := lis_txt 400 hok1
        cases e2 : txtZ 400 r1 with
        | none =>
          refine ⟨fun _ => ?_, fun _ _ e => by cases e⟩
          rcases l2.1 e2 with h1 | h1
          · exact .inl (lis_true h1)
          · exact .inr (not_fits fun hf => by have := hf.2.2.2.1; rw [str_size] at this; omega)
        | some x2 =>
          obtain ⟨q, r2⟩ := x2
          have k2 := l2.2 q r2 e2
          have hok2 := (txt_some hok1 e2).2.2.2
          simp only [k2]
          have l3 := lis_txt 136704 hok2
          cases e3 : txtZ 136704 r2 with
          | none =>
            refine ⟨fun _ => ?_, fun _ _ e => by cases e⟩
            rcases l3.1 e3 with h1 | h1
            · exact .inl h1
            · exact .inr (not_fits fun hf => by have := hf.2.2.2.2; simp only at this; omega)
          | some x3 =>
            obtain ⟨d, r3⟩ := x3
            have k3 := l3.2 d r3 e3
            simp only [k3]
            rw [hw.1 (by omega)]
            exact ⟨fun e => (by cases e), fun n r e => (by cases e; rfl)⟩
/-- What Read tells of bytes: nodes, or none. -/
def readZ : Nat → List Int → Option (List Nod)
  | 0, zs => if zs.length = 0 then some [] else none
  | f + 1, zs => if zs.length = 0 then some [] else match oneZ zs with
    | none => none
    | some (n, r) => (readZ f r).map (n :: ·)
theorem read_nil0 (f : Nat) : readZ f [] = some [] := by cases f <;> rfl
theorem read_step {f : Nat} {zs r : List Int} {n : Nod} (h : okB zs) (hf : zs.length ≤ f) (e : oneZ zs = some (n, r)) : readZ f zs = (readZ (f - 1) r).map (n :: ·) ∧ r.length + 21 ≤ zs.length := by
  obtain ⟨h1, h2, _⟩ := one_some h e
  have hl : zs.length = (nodeB n).length + r.length := by conv => lhs; rw [h1]; rw [List.length_append]
  rw [nodeB_len] at hl
  refine ⟨?_, by omega⟩
  cases f with
  | zero => omega
  | succ f =>
    show (if zs.length = 0 then some [] else _) = _
    rw [if_neg (by omega), e]
    rfl
theorem read_none {f : Nat} {zs : List Int} (hl : 0 < zs.length) (e : oneZ zs = none) : readZ f zs = none := by
  cases f with
  | zero => show (if zs.length = 0 then some [] else _) = _; rw [if_neg (by omega)]
  | succ f => show (if zs.length = 0 then some [] else _) = _; rw [if_neg (by omega), e]
/-- Nodes that are read are written as they were. -/
theorem read_flat : ∀ (f : Nat) (zs : List Int) (L : List Nod), okB zs → readZ f zs = some L → flatB L = zs ∧ L.all fitsB = true
  | 0, zs, L, h, e => by
    have e : (if zs.length = 0 then some [] else none) = some L := e
    split at e
    · rename_i h0
      cases e
      rw [List.eq_nil_of_length_eq_zero h0]
      exact ⟨rfl, rfl⟩
    · cases e
  | f + 1, zs, L, h, e => by
    have e : (if zs.length = 0 then some [] else match oneZ zs with | none => none | some (n, r) => (readZ f r).map (n :: ·)) = some L := e
    split at e
    · rename_i h0
      cases e
      rw [List.eq_nil_of_length_eq_zero h0]
      exact ⟨rfl, rfl⟩
    · cases e1 : oneZ zs with
      | none => rw [e1] at e; cases e
      | some x =>
        obtain ⟨n, r⟩ := x
        simp only [e1] at e
        obtain ⟨h1, h2, h3⟩ := one_some h e1
        cases e2 : readZ f r with
        | none => rw [e2] at e; cases e
        | some M =>
          rw [e2] at e
          cases e
          obtain ⟨k1, k2⟩ := read_flat f r M h3 e2
          refine ⟨?_, by rw [List.all_cons, h2, k2]; rfl⟩
          unfold flatB at k1 ⊢
          rw [List.flatMap_cons, k1, ← h1]
theorem read_count {f : Nat} {zs : List Int} {L : List Nod} (h : okB zs) (e : readZ f zs = some L) : L.length * 21 ≤ zs.length := by
  have h1 := (read_flat f zs L h e).1
  rw [← h1]
  clear h1 e
  induction L with
  | nil => simp
  | cons n L ih =>
    unfold flatB at ih ⊢
    rw [List.flatMap_cons, List.length_append, nodeB_len, List.length_cons]
    omega
end Go.Proofs.Ytiakfgplhdbaeaa
