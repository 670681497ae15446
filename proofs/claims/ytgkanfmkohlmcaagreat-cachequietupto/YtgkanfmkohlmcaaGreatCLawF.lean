/-
  Scripts that are handed in; a teller behind a story.
-/
import Derived.Test.YtgkanfmkohlmcaaGreatT9
import Derived.ProofKit
import Derived.OpenShut
import Derived.ChangeOld
import Derived.Lib.SmallJoins
import Derived.SizedLaws
import Derived.Deep.Slices
import Derived.Test.YtgkanfmkohlmcaaGreatT7f
import Derived.Test.YtgkanfmkohlmcaaGreatCLawK
namespace Go.Proofs.YtgkanfmkohlmcaaGreat
open Go.ChangeShapes Go.WideShapes Go.ChangeAt Go.RowKit Go.Joins

def SV.z : SV := ⟨0, 0, 0, 0, []⟩
/-- A script that was handed in. -/
def ScAt (w : World) (ad : Option Addr) (l : List SV) : Prop :=
  l = [] ∨ ∃ b o, ad = some ⟨b, o, none⟩ ∧ b < w.heap.size ∧ ∀ j, j < l.length → ∃ a ca, w.rangeAt b (o + j * 5) ((l.getD j SV.z).cells a ca) ∧ AAt w a (l.getD j SV.z).af

namespace O
theorem list_of {α : Type} (d : α) (P : Nat → α → Prop) : ∀ n : Nat, (∀ i, i < n → ∃ x, P i x) → ∃ l : List α, l.length = n ∧ ∀ i, i < n → P i (l.getD i d)
  | 0, _ => ⟨[], rfl, fun i hi => absurd hi (Nat.not_lt_zero i)⟩
  | n + 1, h => by
    obtain ⟨l, hl, hp⟩ := list_of d P n (fun i hi => h i (by omega))
    obtain ⟨x, hx⟩ := h n (by omega)
    refine ⟨l ++ [x], by simp [hl], fun i hi => ?_⟩
    by_cases c : i < n
    · rw [List.getD_eq_getElem?_getD, List.getElem?_append_left (by omega), ← List.getD_eq_getElem?_getD]
      exact hp i c
    · have e : i = n := by omega
      subst e
      rw [List.getD_eq_getElem?_getD, List.getElem?_append_right (by omega), hl, Nat.sub_self]
      exact hx
theorem add_add (a : Addr) (x j : Nat) : (a.add x).add j = a.add (x + j) := by
  unfold Addr.add
  by_cases h1 : x = 0
  · by_cases h2 : j = 0
    · simp [h1, h2]
    · simp [h1, h2]
  · by_cases h2 : j = 0
    · simp [h1, h2]
    · simp [h1, h2, Nat.add_assoc]
theorem lt_of_cell {w : World} {b o : Nat} {v : Value} (h : w.cell? ⟨b, o, none⟩ = some v) : b < w.heap.size := by
  rcases Nat.lt_or_ge b w.heap.size with k | k
  · exact k
  · exfalso
    have e : w.heap[b]? = none := Array.getElem?_eq_none k
    simp [World.cell?, e] at h
end O
theorem bulk_one {H : Type} (d : DataW H) : 1 ≤ Rows.uptoBulk d := by
  cases d with
  | lit l => cases l <;> simp [Rows.uptoBulk]
  | _ => simp [Rows.uptoBulk]
theorem bulk_all {H : Type} : ∀ l : List (DataW H), l.length ≤ Rows.uptoBulkAll l
  | [] => Nat.zero_le _
  | d :: r => by
    have h1 := bulk_one d
    have h2 := bulk_all r
    simp only [Rows.uptoBulkAll, List.length_cons]
    omega
theorem after_of {W : World} {x : Addr} {l c : Nat} {zs : List Int} (hl : l ≤ c) (hz : zs.length = c)
    (hcell : ∀ i, i < zs.length → W.cell? (x.add i) = some (.int .i64 (zs.getD i 0))) : AAt W (some x) (zs.take l) := by
  by_cases h0 : l = 0
  · subst h0
    exact .inl (by simp)
  · obtain ⟨b, off, spot⟩ := x
    have hc := hcell 0 (by omega)
    have hspot : spot = none := by simpa [Addr.add] using World.cell?_spot hc
    subst hspot
    have hlt : b < W.heap.size := by
      rw [D.addr_add] at hc
      exact O.lt_of_cell hc
    refine .inr ⟨b, off, rfl, hlt, fun j hj => ?_⟩
    rw [List.length_take] at hj
    have h1 := hcell j (by omega)
    rw [D.addr_add] at h1
    rw [h1]
    simp [show j < l by omega]
set_option maxRecDepth 100000
theorem after_of_trod {H : Type} {enc : TypeId × Value → H} {W : World} {fuel : Nat} {cs : List Value} {x : DataW H × List MemPlace} (h : DataW.trod enc Tryz.prog W 0 (fun _ => true) true fuel 26 cs = some x) :
    ∃ (ad : Option Addr) (cap : Nat) (zs : List Int), cs = [.slice ad zs.length cap] ∧ AAt W ad zs ∧ zs.length ≤ 9223372036854775807 ∧ ∀ k, k < zs.length → I64 (zs.getD k 0) := by
  rcases open_ints Tryz.underlying26 Tryz.underlying3 (by kernel_rfl) h with ⟨e5, _⟩ | ⟨ad, l, cp, zs, e5, _, hll, hmm, hz, hy, hcell, hwz⟩
  · exact ⟨none, 0, [], e5, .inl rfl, by simp, fun k hk => absurd hk (by simp)⟩
  · have hz' : zs.length = cp := by simpa using hz
    have el : (zs.take l).length = l := by rw [List.length_take]; omega
    refine ⟨some ad, cp, zs.take l, by rw [el]; exact e5, after_of hll hz' hcell, ?_, fun k hk => ?_⟩
    · unfold maxLen at hmm
      omega
    · exact wfI (hwz _ (List.mem_of_mem_take (getD_mem hk)))
theorem sv_of_trod {H : Type} {enc : TypeId × Value → H} {W : World} {fuel : Nat} {cs : List Value} {x : DataW H × List MemPlace} (h : DataW.trod enc Tryz.prog W 0 (fun _ => true) true fuel 37 cs = some x) :
    ∃ (o : SV) (ad : Option Addr) (cap : Nat), cs = o.cells ad cap ∧ o.OK ∧ AAt W ad o.af := by
  obtain ⟨xs, m, _, hx1, hl, hlen, hx⟩ := DataW.trod_struct Tryz.underlying37 h
  have hC : Tryz.prog.cellsOf 37 = 5 := by kernel_rfl
  rw [hC] at hl
  match xs, hlen with
  | [y0, y1, y2, y3, y4], _ =>
    have k0 : Tryz.prog.cellsOf 3 = 1 := by kernel_rfl
    have k4 : Tryz.prog.cellsOf 26 = 1 := by kernel_rfl
    have q0 : DataW.trod enc Tryz.prog W 0 (fun _ => true) true m 3 ((cs.drop 0).take (Tryz.prog.cellsOf 3)) = some y0 := hx 0 _ rfl
    have q1 : DataW.trod enc Tryz.prog W 0 (fun _ => true) true m 3 ((cs.drop 1).take (Tryz.prog.cellsOf 3)) = some y1 := hx 1 _ rfl
    have q2 : DataW.trod enc Tryz.prog W 0 (fun _ => true) true m 3 ((cs.drop 2).take (Tryz.prog.cellsOf 3)) = some y2 := hx 2 _ rfl
    have q3 : DataW.trod enc Tryz.prog W 0 (fun _ => true) true m 3 ((cs.drop 3).take (Tryz.prog.cellsOf 3)) = some y3 := hx 3 _ rfl
    have q4 : DataW.trod enc Tryz.prog W 0 (fun _ => true) true m 26 ((cs.drop 4).take (Tryz.prog.cellsOf 26)) = some y4 := hx 4 _ rfl
    rw [k0] at q0 q1 q2 q3
    rw [k4] at q4
    obtain ⟨n0, e0, _, w0⟩ := DataW.trod_int Tryz.underlying3 q0
    obtain ⟨n1, e1, _, w1⟩ := DataW.trod_int Tryz.underlying3 q1
    obtain ⟨n2, e2, _, w2⟩ := DataW.trod_int Tryz.underlying3 q2
    obtain ⟨n3, e3, _, w3⟩ := DataW.trod_int Tryz.underlying3 q3
    obtain ⟨ad, cap, zs, e4, hby, hle, hIs⟩ := after_of_trod q4
    refine ⟨⟨n0, n1, n2, n3, zs⟩, ad, cap, ?_, ⟨wfI w0, wfI w1, wfI w2, hIs, hle⟩, hby⟩
    match cs, hl with
    | [c0, c1, c2, c3, c4], _ =>
      simp at e0 e1 e2 e3 e4
      rw [e0, e1, e2, e3, e4]
      rfl
theorem sc_of_trod {H : Type} {enc : TypeId × Value → H} {W : World} {fuel : Nat} {cs : List Value} {x : DataW H × List MemPlace} (h : DataW.trod enc Tryz.prog W 0 (fun _ => true) true fuel 22 cs = some x) (hw : Rows.uptoBulk x.1 ≤ 1048576) :
    ∃ (a : Option Addr) (cap : Nat) (ws : List SV), cs = [.slice a ws.length cap] ∧ ws.length ≤ 1048576 ∧ ScAt W a ws ∧ ∀ j, j < ws.length → (ws.getD j SV.z).OK := by
  have hC : Tryz.prog.cellsOf 37 = 5 := by kernel_rfl
  rcases DataW.trod_slice Tryz.underlying22 h with ⟨hcs, _⟩ | ⟨a, l, c, elems, rest, m, _, hcs, hx, hb, hl, hm, hlen, hel, _, _⟩
  · exact ⟨none, 0, [], hcs, by decide, .inl rfl, fun j hj => absurd hj (by simp)⟩
  · rw [hC] at hel
    have key : ∀ i, i < l → ∃ z : SV, z.OK ∧ ∃ ad cap, (∀ j v, (z.cells ad cap)[j]? = some v → W.cell? (a.add (i * 5 + j)) = some v) ∧ AAt W ad z.af := by
      intro i hi
      have h1 := hel i hi
      rw [List.getElem?_eq_getElem (by omega), Option.bind_eq_some_iff] at h1
      obtain ⟨cs, hcs, ht⟩ := h1
      obtain ⟨z, ad, cap, hz, hn, hby⟩ := sv_of_trod ht
      obtain ⟨_, hcl, hcc⟩ := World.cells?_some hcs
      refine ⟨z, hn, ad, cap, fun j v hj => ?_, hby⟩
      have hj5 : j < 5 := by
        rcases Nat.lt_or_ge j 5 with k | k
        · exact k
        · rw [List.getElem?_eq_none (by simpa [SV.cells] using k)] at hj; cases hj
      have h2 := hcc j (by omega)
      rw [O.add_add] at h2
      rw [h2, hz]
      exact hj
    obtain ⟨ws, hws, hP⟩ := O.list_of SV.z _ l key
    have hbnd : l ≤ 1048576 := by
      have h1 : x.1 = .slice (elems.map (·.1)) (rest.map (·.1)) := congrArg Prod.fst hx
      rw [h1] at hw
      simp only [Rows.uptoBulk] at hw
      have h3 := bulk_all (elems.map (·.1))
      rw [List.length_map] at h3
      omega
    refine ⟨some a, c, ws, by rw [hws]; exact hcs, by omega, ?_, fun j hj => (hP j (by omega)).1⟩
    by_cases h0 : l = 0
    · exact .inl (List.eq_nil_of_length_eq_zero (by omega))
    obtain ⟨b, o, spot⟩ := a
    have hspot : spot = none := by
      obtain ⟨_, ad, cap, hc, _⟩ := hP 0 (by omega)
      have := hc 0 _ rfl
      simpa [Addr.add] using World.cell?_spot this
    subst hspot
    have hblt : b < W.heap.size := by
      obtain ⟨_, ad, cap, hc, _⟩ := hP 0 (by omega)
      have hc := hc 0 _ rfl
      rw [D.addr_add] at hc
      exact O.lt_of_cell hc
    refine .inr ⟨b, o, rfl, hblt, fun j hj => ?_⟩
    obtain ⟨_, ad, cap, hc, hby⟩ := hP j (by omega)
    refine ⟨ad, cap, fun i v hi => ?_, hby⟩
    have := hc i v hi
    rw [D.addr_add, ← Nat.add_assoc] at this
    exact this
theorem open_sc {H : Type} {enc : TypeId × Value → H} {W : World} {r : Go.Reach} {b0 : Nat} {v : Value} {d : DataW H} {p : List MemPlace}
    (hv : Value.okWide Tryz.prog W r b0 22 v) (h : DataW.Trod enc Tryz.prog W 0 (fun _ => true) true 22 v d p) (hw : Rows.uptoBulk d ≤ 1048576) :
    ∃ (ws : List SV) (a : Option Addr) (cap : Nat), v = .slice a ws.length cap ∧ ws.length ≤ 1048576 ∧ ScAt W a ws ∧ ∀ j, j < ws.length → (ws.getD j SV.z).OK := by
  obtain ⟨a0, len0, cap0, rfl⟩ := okWide_slice Tryz.underlying22 hv
  obtain ⟨fuel, hf⟩ := h
  obtain ⟨a, cap, ws, hcs, hl, hi, h6⟩ := sc_of_trod hf hw
  simp [Value.cells] at hcs
  obtain ⟨rfl, rfl, rfl⟩ := hcs
  exact ⟨ws, _, _, rfl, hl, hi, h6⟩

end Go.Proofs.YtgkanfmkohlmcaaGreat

namespace Go.Proofs.YtgkanfmkohlmcaaGreat
open Go.RowKit

theorem start_tk (n : Nat) (hn4 : n ≤ 4096) : TK n (startT n) := by
  have hd : ∀ x, ¬ (newZ (D.D0 (D.zl (128 * n)))).dirty x := fun x e => by cases e
  have hsec : ∀ i : Nat, i < n → D.secK (D.zl (128 * n)) i = verL 0 := fun i hi => by
    rw [verL_zero]
    unfold D.secK D.zl D.Zs
    rw [List.drop_replicate, List.take_replicate]
    congr 1
    omega
  refine ⟨⟨⟨fun a b e => e.elim, fun x e => absurd e (hd x), fun x q e => (by cases e), ?_, hn4, by show (0 : Int) ≤ 0; decide, by show (0 : Int) ≤ 0 ∧ (0 : Int) ≤ _; decide⟩, by show (D.zl (128 * n)).length = _; simp [D.zl], by show (1 : Int) ≤ _; decide, rfl, fun x q e => (by cases e), fun i hi => ⟨0, by decide, by show (0 : Int) < 1; decide, hsec i hi, fun _ => ?_⟩, fun x e => absurd e (hd x), fun o ho => (by cases ho)⟩, ?_, ⟨rfl, rfl⟩, by simp [startT], by show (1 : Int) ≤ 1; decide⟩
  · exact (newZ_inv (d := D.D0 (D.zl (128 * n))) hn4 (by show (0 : Int) ≤ 0; decide) (by show (0 : Int) ≤ 0 ∧ (0 : Int) ≤ _; decide)).ring
  · unfold lf startT
    simp only
    rw [List.getD_eq_getElem?_getD, List.getElem?_replicate]
    split <;> rfl
  · show List.replicate n false = _
    refine List.ext_getElem (by simp [flags_len]) fun i h1 h2 => ?_
    have hi : i < n := by simpa using h1
    have e2 := flags_get (z := (startT n).z) hi
    rw [List.getD_eq_getElem?_getD, List.getElem?_eq_getElem h2] at e2
    simp only [Option.getD_some] at e2
    rw [List.getElem_replicate, Bool.eq_iff_iff, e2]
    exact ⟨fun e => (by cases e), fun e => absurd e (hd _)⟩

theorem step_calm {w0 w : World} {t c p g n : Nat} {s : TSt} (x : SV) (a : Option Addr) (ca : Nat) (h : FT w0 w t c p g n s) (hk : TK n s) (hn : 8 ≤ n) (hx : x.OK) (ha : AAt w0 a x.af) (hnx : s.nx < 16000000) (hw : s.z.d.wr < 4611686018427370000) (hod : s.od.length ≤ 90000000000) (hj : ¬ D.pickN x.kind 12 = 11) (har : s.z.d.ar = false) :
    Calls Tryz.prog 29 #[.pointer (some ⟨t, 0, none⟩), .agg (x.cells a ca).toArray] w fun e w' => ∃ s1, e = .returned (.tuple #[.bool true, .bool false]) ∧ Kept n s s1 0 (¬ D.pickN x.kind 12 = 11) (stepF n s x) ∧ FT w0 w' t c p g n { s1 with di := flags n s1.z } ∧ s1.z.d.ar = false := by
  refine (step_any x a ca h hk hn hx ha hnx hw hod).mono ?_
  rintro e w' ⟨s1, ov, e1, rfl, hK, _, hd⟩
  have hu := hK.ua hj har
  rcases hd with ⟨rfl, rfl, hF⟩ | ⟨_, he⟩
  · exact ⟨s1, rfl, hK, hF, hu.1⟩
  · rw [hu.2] at he
    exact absurd he (by decide)
/-- What a story leaves. -/
noncomputable def stepS (n : Nat) (s : TSt) (x : SV) : TSt := if D.pickN x.kind 12 = 11 then s else { (stepF n s x).1 with di := flags n (stepF n s x).1.z }
noncomputable def storyF (n : Nat) (l : List SV) : TSt := l.foldl (stepS n) (startT n)
theorem storyF_more (n : Nat) (l : List SV) {k : Nat} (h : k < l.length) : storyF n (l.take (k + 1)) = stepS n (storyF n (l.take k)) (l.getD k SV.z) := by
  have e : l.getD k SV.z = l[k] := by simp [h]
  unfold storyF
  rw [List.take_add_one, List.getElem?_eq_getElem h, List.foldl_append, e]
  rfl
/-- What story tells. -/
def StoryEnd (w : World) (n : Nat) (l : List SV) (e : Ending) (w' : World) : Prop :=
  ∃ (t c p g : Nat) (s : TSt), e = .returned (.pointer (some ⟨t, 0, none⟩)) ∧ FT w w' t c p g n s ∧ TK n s ∧ s.z.d.ar = false ∧ s.nx ≤ l.length + 1 ∧ s.z.d.wr ≤ 5000 * l.length ∧ s.od.length ≤ 12 * l.length ∧ s = storyF n l

set_option maxRecDepth 100000 in
set_option maxHeartbeats 4000000 in
theorem story_any (x0 : Int) (hx0 : I64 x0) (l : List SV) (ad : Option Addr) (cap : Nat) (w : World) (hs : ScAt w ad l) (hl : l.length ≤ 1048576) (hok : ∀ j, j < l.length → (l.getD j SV.z).OK) (n : Nat) (hn : 8 + D.pickN x0 25 = (n : Int)) :
    Calls Tryz.prog 5 #[.int .i64 x0, .slice ad l.length cap] w fun e w' => StoryEnd w n l e w' := by
  have hb := D.pickN_bd x0 (n := 25) (by omega)
  have hn8 : 8 ≤ n := by omega
  have hn4 : n ≤ 4096 := by omega
  have HST := starts_any x0 hx0 w n hn
  have HS := hid hs
  have HOKs := hid hok
  have HN := hid (And.intro hn8 hn4)
  have HW : Hid (∀ e w', (∃ (t c p g : Nat) (s : TSt), e = .returned (.pointer (some ⟨t, 0, none⟩)) ∧ FT w w' t c p g n s ∧ TK n s ∧ s.z.d.ar = false ∧ s.nx ≤ l.length + 1 ∧ s.z.d.wr ≤ 5000 * l.length ∧ s.od.length ≤ 12 * l.length ∧ s = storyF n l) → StoryEnd w n l e w') := fun e w' h => h
  generalize hm : l.length = m at *
  have HM := hid hm
  clear hn hb hs hok hm
  go_enter Tryz.func5, Tryz.ntmps5
  go_wp2_with (first
    | (go_at_call 28; go_must (refine HST.mono ?_; rintro e w1 ⟨t, c, p, g, rfl, hF1⟩; have HF1 := hid hF1; clear HST hF1))
    | fail)
  go_loopw [6] (fun i wr => ∃ (k : Nat) (s : TSt) (wq : World), wq = wr ∧ k ≤ m ∧ i = .int .i64 k ∧ Hid (FT w wq t c p g n s ∧ TK n s ∧ s.z.d.ar = false ∧ s = storyF n (l.take k)) ∧ s.nx ≤ k + 1 ∧ s.z.d.wr ≤ 5000 * k ∧ s.od.length ≤ 12 * k) (fun i _ => m - (intOf i).toNat)
  case atStart => exact ⟨0, startT n, w1, rfl, by omega, rfl, ⟨HF1.out, start_tk n HN.out.2, rfl, rfl⟩, by show (1 : Int) ≤ _; simp, by show (0 : Int) ≤ _; simp, by show (0 : Nat) ≤ _; simp⟩
  case round =>
    obtain ⟨k, s, wq, rfl, hkm, rfl, HFK, hnx, hwr, hod⟩ := hrel
    clear HF1
    by_cases hlt : k < m
    · have hch := HFK.out.1.chg
      rcases HS.out with h0 | ⟨b, o, rfl, hbl, hsc⟩
      · have := HM.out; rw [h0] at this; simp at this; omega
      obtain ⟨a, ca, hra, haa⟩ := hsc k (by rw [HM.out]; exact hlt)
      have hokx := HOKs.out k hlt
      have HSF := hid (storyF_more n l (k := k) (by rw [HM.out]; exact hlt))
      generalize l.getD k SV.z = x at *
      have hr : wq.rangeAt b (o + k * 5) (x.cells a ca) := fun i v hv => cell_keep (hra i v hv) hch hbl (fun e => e)
      have hk0 : wq.cell? ⟨b, o + k * 5, none⟩ = some (.int .i64 x.kind) := hr 0 _ rfl
      have HPK := D.pick_any x.kind 12 wq hokx.k (by omega) (by omega)
      have HG := hid (And.intro hnx (And.intro hwr hod))
      have hi0 : (0 : Int) ≤ (k : Int) := by omega
      have hi1 : (k : Int) < (m : Int) := by omega
      have HLT := hid hlt
      by_cases h11 : D.pickN x.kind 12 = 11
      · have HFK2 : Hid (FT w wq t c p g n s ∧ TK n s ∧ s.z.d.ar = false ∧ s = storyF n (l.take (k + 1))) := ⟨HFK.out.1, HFK.out.2.1, HFK.out.2.2.1, by rw [HSF.out]; unfold stepS; rw [if_pos h11]; exact HFK.out.2.2.2⟩
        rw [h11] at HPK
        clear HSF
        clear hnx hwr hod hch hra haa hokx hsc hbl hr h11
        go_wp2_with (first
          | (go_at_call 8; go_must (refine HPK.mono ?_; rintro e wp ⟨rfl, ewp⟩; subst ewp; clear HPK))
          | fail)
        have := HLT.out
        have h1 := HG.out
        exact ⟨⟨k + 1, s, _, rfl, by omega, by go_num, HFK2, by omega, by omega, by omega⟩, by simp [intOf]; omega⟩
      · have HSTP := step_calm x a ca HFK.out.1 HFK.out.2.1 HN.out.1 hokx haa (by omega) (by omega) (by omega) h11 HFK.out.2.2.1
        have HST2 : Hid (∀ s1, (s1, (0 : Int)) = stepF n s x → ({ s1 with di := flags n s1.z } : TSt) = storyF n (l.take (k + 1))) := fun s1 e => by
          rw [HSF.out, ← HFK.out.2.2.2]
          unfold stepS
          rw [if_neg h11, ← e]
        have hne : (D.pickN x.kind 12 == 11) = false := by simp [h11]
        clear HSF
        have HKD := hid h11
        clear hnx hwr hod hch hra haa hokx hsc hbl HFK h11
        go_wp2_with (first
          | (go_at_call 8; go_must (refine HPK.mono ?_; rintro e wp ⟨rfl, ewp⟩; subst ewp; clear HPK))
          | (refine wpList_load_mid rfl 37 _ rfl b (o + k * 5) rfl (x.cells a ca) _ hr Tryz.underlying37 rfl (by rw [szSt]; rfl) ?_)
          | (go_at_call 29; go_must (refine HSTP.mono ?_; rintro e w3 ⟨s1, rfl, hKe, hF3, har3⟩; have HE := hid (And.intro hKe (And.intro hF3 har3)); clear HSTP hKe hF3 har3 hr))
          | fail)
        obtain ⟨hKe, hF3, har3⟩ := HE.out
        have := HLT.out
        have h1 := HG.out
        have h2 := hKe.gn
        have h3 := hKe.gw
        have h4 := hKe.go
        exact ⟨⟨k + 1, _, _, rfl, by omega, by go_num, hid ⟨hF3, hKe.tk, har3, HST2.out s1 hKe.fn⟩, by simp only; omega, by simp only; omega, by simp only; omega⟩, by simp [intOf]; omega⟩
    · have hi1 : ¬ (k : Int) < (m : Int) := by omega
      have e : k = m := by omega
      subst e
      clear hlt hkm
      go_wp2_with fail
      go_ret
      refine HW.out _ _ ⟨t, c, p, g, s, rfl, HFK.out.1, HFK.out.2.1, HFK.out.2.2.1, hnx, hwr, hod, ?_⟩
      have h := HFK.out.2.2.2
      rw [← HM.out, List.take_length] at h
      exact h

end Go.Proofs.YtgkanfmkohlmcaaGreat
