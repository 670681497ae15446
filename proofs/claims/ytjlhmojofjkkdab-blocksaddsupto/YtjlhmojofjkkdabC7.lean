/-
  Need: how many sectors must be taken for blocks.
-/
import Derived.Test.YtjlhmojofjkkdabC6
namespace Go.Proofs.Ytjlhmojofjkkdab
open Go.RowKit Go.Shelf

def badK (k : Int) : Bool := decide (k < 0 ∨ 1068 ≤ k)
def ptsL (k : Int) : List (Int × Int) := if k < 12 then [(0, k)] else if k < 44 then [(1, 12), (0, k)] else [(2, 44), (1, k - (k - 44) % 32), (0, k)]
def addP (M : List (Int × Int)) (l : List (Int × Int)) : List (Int × Int) := l.foldl insP M
/-- A block's way, followed. -/
def folK (s : Src) (z : List Int) (k : Int) : Int × Int × Int := folW s (bgW z k) (plW k) 0
def needM (s : Src) (z : List Int) : List Int → List (Int × Int) → List (Int × Int) × Int
  | [], M => (M, 0)
  | k :: ks, M => if (folK s z k).2.2 = 0 then needM s z ks (if (folK s z k).1 = 0 then addP M ((ptsL k).drop (folK s z k).2.1.toNat) else M) else ([], (folK s z k).2.2)
def needR (s : Src) (z : List Int) (ks : List Int) : Int × Int :=
  if ks.any badK then (0, 90) else if (needM s z ks []).2 = 0 then (((needM s z ks []).1.length : Int), 0) else (0, (needM s z ks []).2)
def LI (w : World) (a : Option Addr) (ks : List Int) : Prop := ∀ (j : Nat) k, ks[j]? = some k → ∃ g o, a = some ⟨g, o, none⟩ ∧ w.cell? ⟨g, o + j, none⟩ = some (.int .i64 k)
theorem LI.below {w w' : World} {a : Option Addr} {ks : List Int} (h : LI w a ks) (hb : Below w.heap.size w w') : LI w' a ks := fun j k hj => by
  obtain ⟨g, o, h1, h2⟩ := h j k hj
  exact ⟨g, o, h1, by rw [hb.cell (p := ⟨g, o + j, none⟩) (World.block_lt_of_cell? _ _ h2)]; exact h2⟩
theorem fol_gone (s : Src) : ∀ (ps : List Int) (n : Int) (g : Nat), ∃ G : Nat, (folW s n ps g).2.1 = (G : Int) ∧ G ≤ g + ps.length
  | [], n, g => ⟨g, rfl, by simp⟩
  | p :: ps, n, g => by
    unfold folW
    by_cases h : n = 0
    · rw [if_pos h]; exact ⟨g, rfl, by simp⟩
    · rw [if_neg h]
      by_cases h2 : (tabS s n).2 = 0
      · rw [if_pos h2]
        obtain ⟨G, h3, h4⟩ := fol_gone s ps ((tabS s n).1.getD p.toNat 0) (g + 1)
        exact ⟨G, h3, by simp; omega⟩
      · rw [if_neg h2]; exact ⟨0, rfl, by omega⟩
theorem ptW_flat (k : Int) : ptW k = (ptsL k).flatMap fun p => [p.1, p.2] := by
  unfold ptW ptsL
  split
  · rfl
  · split <;> rfl
theorem ptsL_sm {k : Int} (h : badK k = false) : ∀ p ∈ ptsL k, Sm p := by
  have h : ¬ (k < 0 ∨ 1068 ≤ k) := by simpa [badK] using h
  intro p hp
  unfold ptsL at hp
  unfold Sm
  split at hp
  · simp at hp; subst hp; simp; omega
  · split at hp
    · simp at hp; rcases hp with rfl | rfl <;> simp <;> omega
    · simp at hp; rcases hp with rfl | rfl | rfl <;> simp <;> omega
theorem ptsL_len (k : Int) : (ptsL k).length = (plW k).length + 1 := by
  unfold ptsL plW
  split
  · rfl
  · split <;> rfl
theorem nodup_lenN : ∀ (l L : List Nat), l.Nodup → (∀ x, x ∈ l → x ∈ L) → l.length ≤ L.length
  | [], _, _, _ => Nat.zero_le _
  | x :: l, L, hp, hs => by
    obtain ⟨h1, h2⟩ := List.nodup_cons.1 hp
    have hx : x ∈ L := hs x (by simp)
    have := nodup_lenN l (L.erase x) h2 (fun y hy => (List.mem_erase_of_ne (fun e => by subst e; exact h1 hy)).2 (hs y (by simp [hy])))
    rw [List.length_erase_of_mem hx] at this
    have := List.length_pos_of_mem hx
    simp
    omega
theorem PSet.few {w : World} {b : Nat} {M : List (Int × Int)} (h : PSet w b M) : M.length ≤ 1000000000 := by
  have h1 : (M.map fun p => p.1.toNat * 5001 + p.2.toNat).Nodup := by
    unfold List.Nodup
    rw [List.pairwise_map]
    refine List.Pairwise.imp_of_mem ?_ h.nodup
    intro p q hp hq hne e
    apply hne
    obtain ⟨a1, a2, a3, a4⟩ := h.small p hp
    obtain ⟨b1, b2, b3, b4⟩ := h.small q hq
    obtain ⟨p1, p2⟩ := p
    obtain ⟨q1, q2⟩ := q
    simp only at *
    have : p1 = q1 := by omega
    have : p2 = q2 := by omega
    simp [*]
  have h2 := nodup_lenN _ (List.range 26000000) h1 (fun x hx => by
    obtain ⟨p, hp, rfl⟩ := List.mem_map.1 hx
    obtain ⟨a1, a2, a3, a4⟩ := h.small p hp
    simp
    omega)
  simp at h2
  omega
theorem needR_bad {s : Src} {z ks : List Int} (h : ks.any badK = true) : needR s z ks = (0, 90) := if_pos h
theorem needR_err {s : Src} {z ks : List Int} (h : ks.any badK = false) {M : List (Int × Int)} {e : Int} (he : needM s z ks [] = (M, e)) (h0 : e ≠ 0) : needR s z ks = (0, e) := by
  unfold needR; rw [if_neg (by rw [h]; decide), he]; exact if_neg h0
theorem needR_ok {s : Src} {z ks : List Int} (h : ks.any badK = false) {M : List (Int × Int)} (he : needM s z ks [] = (M, 0)) : needR s z ks = ((M.length : Int), 0) := by
  unfold needR; rw [if_neg (by rw [h]; decide), he]; exact if_pos rfl
theorem szPart2 : (Try.prog.info? 74).map (·.size) = some 2 := by kernel_rfl
theorem flat_get (l : List (Int × Int)) : ∀ (j : Nat) (p : Int × Int), l[j]? = some p → (l.flatMap fun p => [p.1, p.2])[j * 2]? = some p.1 ∧ (l.flatMap fun p => [p.1, p.2])[j * 2 + 1]? = some p.2 := by
  induction l with
  | nil => intro j p h; simp at h
  | cons x l ih =>
    intro j p h
    cases j with
    | zero => simp at h; subst h; simp
    | succ j =>
      have := ih j p (by simpa using h)
      simp only [List.flatMap_cons]
      rw [List.getElem?_append_right (by simp; omega), List.getElem?_append_right (by simp; omega)]
      simpa [Nat.succ_mul, Nat.add_sub_cancel, show (j + 1) * 2 - 2 = j * 2 by omega, show (j + 1) * 2 + 1 - 2 = j * 2 + 1 by omega] using this

theorem flat_len : ∀ l : List (Int × Int), (l.flatMap fun p => [p.1, p.2]).length = l.length * 2
  | [] => rfl
  | x :: l => by rw [List.flatMap_cons, List.length_append, flat_len l]; simp; omega

set_option maxRecDepth 100000 in
set_option maxHeartbeats 1000000 in
theorem Need_any (pm : Nat) (s : Src) (z : List Int) (a : Option Addr) (c : Nat) (ks : List Int) (w : World) (hz : z.length = 18) (hr : Rd w pm s) (hks : LI w a ks) (hn : ks.length ≤ 9223372036854775807) :
    Calls Try.prog 10 #[rdV pm, .agg (NA z), .slice a ks.length c] w fun e w' => e = .returned (.tuple #[.int .i64 (needR s z ks).1, .int .i64 (needR s z ks).2]) ∧ Below w.heap.size w w' := by
  have hqn : ∀ w, (binOp .eql 54 (rdV pm) .nilIface).run Try.prog w = .ok (.bool false) w := fun _ => by unfold rdV; rfl
  have hqg : ∀ w, (eqGuard .eql 54 (.tmp 23) (.const .nilIface) (rdV pm) .nilIface).run Try.prog w = .ok () w := fun _ => by unfold rdV; rfl
  have hzw : ∀ w, (zeroValue 68).run Try.prog w = .ok (.agg Zw) w := fun w => by kernel_rfl
  obtain ⟨W, hW⟩ : ∃ y, y = w.alloc (.cells (NA z) 24) := ⟨_, rfl⟩
  have HB : Hid (Below w.heap.size w W) := by rw [hW]; exact (Below.refl _ _).alloc (Nat.le_refl _) _
  have H0 : Hid (W.heap[w.heap.size]? = some (.cells (NA z) 24 (0, 0))) := by rw [hW]; exact heap_alloc_new _ _
  have HZ : Hid (W.heap.size = w.heap.size + 1) := by rw [hW]; exact hid (by simp)
  obtain ⟨N, hN⟩ : ∃ N, N = ks.length := ⟨_, rfl⟩
  have HN := hid hN
  rw [← hN] at hn
  rw [← hN]
  clear hN
  go_enter Try.func10, Try.ntmps10
  go_upto_region 1 with fail
  rw [← hW]
  clear hW
  go_upto_region 4 with fail
  go_loopw [27] (fun i wr => ∃ (k : Nat), k ≤ N ∧ i = .int .i64 k ∧ Hid (∀ (j : Nat) x, j < k → ks[j]? = some x → badK x = false) ∧ wr = W) (fun i _ => N - (intOf i).toNat)
  case atStart => exact ⟨0, by omega, rfl, hid (fun j x hj => by omega), rfl⟩
  case round =>
    obtain ⟨k, hk, rfl, HG, rfl⟩ := hrel
    by_cases hlt : k < N
    · obtain ⟨x, hx⟩ : ∃ x, ks[k]? = some x := ⟨_, List.getElem?_eq_getElem (by rw [← HN.out]; exact hlt)⟩
      obtain ⟨g, o, ha, hcg⟩ := hks k x hx
      subst ha
      have hcp : wr.cell? ⟨g, o + k, none⟩ = some (.int .i64 x) := by rw [HB.out.cell (p := ⟨g, o + k, none⟩) (World.block_lt_of_cell? _ _ hcg)]; exact hcg
      have HX := hid hx
      clear hcg hx
      have j0 : (0 : Int) ≤ (k : Int) := by omega
      have j1 : (k : Int) < (N : Int) := by omega
      have hWy := way_any x wr
      by_cases hb : x < 0 ∨ 1068 ≤ x
      · have hwr : wayR x = (0, 0, 0, 90) := if_pos hb
        have HE : Hid (needR s z ks = (0, 90)) := hid (needR_bad (List.any_eq_true.2 ⟨x, List.mem_of_getElem? HX.out, by unfold badK; exact decide_eq_true hb⟩))
        simp only [hwr, wayV] at hWy
        clear hb hwr
        go_wp2_with (first | (go_at_call 13; go_must (refine hWy.mono ?_; rintro e w2 ⟨rfl, hw2⟩; subst hw2)))
        exact bodyPost_ret (results_2t Try.results10 _ _) rfl ⟨by rw [HE.out]; rfl, HB.out⟩
      · have hwr : ∃ d i j, wayR x = (d, i, j, 0) := by
          unfold wayR
          rw [if_neg hb]
          split
          · exact ⟨_, _, _, rfl⟩
          · split <;> exact ⟨_, _, _, rfl⟩
        obtain ⟨d, i, j, hwr⟩ := hwr
        have HBx : Hid (badK x = false) := hid (by unfold badK; exact decide_eq_false hb)
        simp only [hwr, wayV] at hWy
        clear hb hwr
        go_wp2_with (first | (go_at_call 13; go_must (refine hWy.mono ?_; rintro e w2 ⟨rfl, hw2⟩; subst hw2)))
        refine ⟨⟨k + 1, by omega, by go_num, hid (fun j x' hj hx' => ?_), trivial⟩, by simp [intOf]; omega⟩
        rcases Nat.lt_or_ge j k with e | e
        · exact HG.out j x' e hx'
        · obtain rfl : j = k := by omega
          rw [HX.out] at hx'; cases hx'; exact HBx.out
    · obtain rfl : k = N := by omega
      have hge : ¬ ((k : Int) < (k : Int)) := by omega
      have HA : Hid (ks.any badK = false) := hid (by
        rw [Bool.eq_false_iff]
        intro h
        obtain ⟨x, hx, hb⟩ := List.any_eq_true.1 h
        obtain ⟨j, hj, rfl⟩ := List.mem_iff_getElem.1 hx
        rw [HG.out j _ (by rw [HN.out]; exact hj) (List.getElem?_eq_getElem hj)] at hb
        cases hb)
      clear hlt
      have hmm := @run_makeMap Try.prog
      go_upto_region 12 with fail
      obtain ⟨X, hX⟩ : ∃ y, y = wr.alloc (.map #[] 0) := ⟨_, rfl⟩
      obtain ⟨mb, hmb⟩ : ∃ y, y = wr.heap.size := ⟨_, rfl⟩
      have X0 : PSet X mb [] := by rw [hX, hmb]; exact PSet.made wr
      have XI : X.heap[w.heap.size]? = some (.cells (NA z) 24 (0, 0)) := by rw [hX, Below.heap_alloc _ _ _ (slt H0.out)]; exact H0.out
      have XB : Below w.heap.size w X := by rw [hX]; exact HB.out.alloc HB.out.size _
      have hmw : w.heap.size < mb := by rw [hmb, HZ.out]; omega
      rw [← hX, ← hmb]
      clear hX hmb
      have HX0 := hid X0
      have HXI := hid XI
      have HXB := hid XB
      clear X0 XI XB
      go_loopw [45] (fun i wq => ∃ (j : Nat) (M : List (Int × Int)), j ≤ k ∧ i = .int .i64 j ∧ Hid (needM s z ks [] = needM s z (ks.drop j) M) ∧ Hid (PSet wq mb M) ∧ Hid (Below w.heap.size w wq) ∧ Hid (wq.heap[w.heap.size]? = some (.cells (NA z) 24 (0, 0)))) (fun i _ => k - (intOf i).toNat)
      case atStart => exact ⟨0, [], by omega, rfl, hid rfl, HX0, HXB, HXI⟩
      case round =>
        obtain ⟨j, M, hj, rfl, HF, HP, HBq, HIq⟩ := hrel
        clear HX0 HXI HXB
        by_cases hlt : j < k
        · obtain ⟨x, hx⟩ : ∃ x, ks[j]? = some x := ⟨_, List.getElem?_eq_getElem (by rw [← HN.out]; exact hlt)⟩
          obtain ⟨g, o, ha, hcg⟩ := hks j x hx
          subst ha
          have hcp : wr.cell? ⟨g, o + j, none⟩ = some (.int .i64 x) := by rw [HBq.out.cell (p := ⟨g, o + j, none⟩) (World.block_lt_of_cell? _ _ hcg)]; exact hcg
          have hbx := HG.out j x hlt hx
          have hbx2 : ¬ (x < 0 ∨ 1068 ≤ x) := by simpa [badK] using hbx
          have hpl := plW_len x
          have hdr : ks.drop j = x :: ks.drop (j + 1) := by rw [List.drop_eq_getElem_cons (by rw [← HN.out]; exact hlt)]; congr 1; exact (List.getElem?_eq_some_iff.1 hx).2
          obtain ⟨f1, f2, f3, hf⟩ : ∃ f1 f2 f3, folK s z x = (f1, f2, f3) := ⟨_, _, _, rfl⟩
          obtain ⟨G, hG1, hG2⟩ := fol_gone s (plW x) (bgW z x) 0
          have hf2 : f2 = (G : Int) := by unfold folK at hf; rw [hf] at hG1; exact hG1
          subst hf2
          have HF2 : Hid (needM s z ks [] = if f3 = 0 then needM s z (ks.drop (j + 1)) (if f1 = 0 then addP M ((ptsL x).drop G) else M) else ([], f3)) := by
            rw [HF.out, hdr]
            show Hid ((if (folK s z x).2.2 = 0 then _ else _) = _)
            rw [hf]
            exact hid rfl
          have hw := fun w' => wayOf_ok z x w' hz (by omega) (by omega)
          unfold folK at hf
          have HFo := hid hf
          have HSm := hid (ptsL_sm hbx)
          have HX := hid hx
          have HPl := hid (ptsL_len x)
          have HG2 := hid hG2
          clear hcg hx hdr hf hG1 hbx hbx2 hG2
          have j0 : (0 : Int) ≤ (j : Int) := by omega
          have j1 : (j : Int) < (k : Int) := by omega
          go_upto_region 18 with (first
            | (refine load_R rfl 24 (.tmp 4) rfl w.heap.size rfl 24 (NA z) _ HIq.out Try.underlying24 rfl (by rw [szI, NA_size, hz]) ?_)
            | (go_at_call 17; go_must (refine (hw _).mono ?_; rintro e w2 ⟨aq, ap, nq, cq, m, cp, rfl, hwa, hb2⟩; have HWA := hid hwa; have HB2 := hid hb2; clear hwa hb2))
            | (refine store_R rfl 68 (.tmp 17) (.tmp 53) rfl w2.heap.size #[.int .i64 (bgW z x), .slice aq nq cq, .slice ap m cp] rfl rfl 68 Zw (heap_alloc_new _ _) (by rw [szWay]; rfl) rfl (by simp [Value.oneCell']) ?_; intro w5 p5; have HP5 := hid p5.here; have HB5 := hid (p5.below (HB2.out.alloc HB2.out.size _) HB2.out.size); have HWA5 := hid (HWA.out.below (p5.below ((Below.refl _ w2).alloc (Nat.le_refl _) _) (Nat.le_refl _))); clear p5)
            | (refine load_R rfl 68 (.tmp 17) rfl w2.heap.size rfl 68 #[.int .i64 (bgW z x), .slice aq nq cq, .slice ap m cp] _ HP5.out Try.underlying68 rfl (by rw [szWay]; rfl) ?_)
            | (go_at_call 18; go_must (refine (Calls.mono (by have hq := follow_any pm s (bgW z x) aq cq (plW x) (.slice ap m cp) w5 (hr.below (btr HBq.out HB5.out HBq.out.size)) HWA5.out.pl hpl; rw [← HWA5.out.len] at hq; exact hq) ?_); rintro e w6 ⟨rfl, hb6⟩; rw [HFo.out]; unfold folV; have HB6 := hid hb6; clear hb6)))
          have B6 : Below wr.heap.size wr w6 := btr HB5.out HB6.out HB5.out.size
          have W6 : w6.heap[w2.heap.size]? = some (.cells #[.int .i64 (bgW z x), .slice aq nq cq, .slice ap m cp] 68 (0, 0)) := by rw [HB6.out.block _ (slt HP5.out)]; exact HP5.out
          have P6 := HWA5.out.below HB6.out
          have hcm := P6.cpm
          have hml := P6.plen
          obtain ⟨gp, hap, hlo, hgp⟩ := P6.pt
          subst hap
          subst hcm
          have c6 : w6.cell? ⟨w2.heap.size, 2, none⟩ = some (.slice (some ⟨gp, 0, none⟩) m m) := by rw [cell_of_row _ _ _ _ _ _ W6]; rfl
          have HS6 : Hid (PSet w6 mb M) := HP.out.keep (B6.block _ HP.out.lt)
          have HI6 : Hid (w6.heap[w.heap.size]? = some (.cells (NA z) 24 (0, 0))) := by rw [B6.block _ (slt HIq.out)]; exact HIq
          have HW6 : Hid (Below w.heap.size w w6) := btr HBq.out B6 HBq.out.size
          have HB6' := hid B6
          have hm : m = (plW x).length + 1 := by
            rw [ptW_flat, flat_len] at hml
            have := HPl.out
            omega
          have hGm : (G : Int) ≤ (m : Int) := by have := HG2.out; omega
          have hGl : G < m := by have := HG2.out; omega
          have hG0 : (0 : Int) ≤ (G : Int) := by omega
          have Hgp := hid hgp
          have HM := hid hm
          clear hgp hml hlo W6 P6 HP5 HWA5 HB2 HB5 HWA HP HIq B6 hm HB6
          by_cases h3 : f3 = 0
          · have HF3 := hid (HF2.out.trans (if_pos h3))
            subst h3
            by_cases h1 : f1 = 0
            · rw [if_pos h1] at HF3
              subst h1
              go_upto_region 22 with fail
              obtain ⟨L, hL⟩ : ∃ y, y = m - G := ⟨_, rfl⟩
              obtain ⟨PL, hPL⟩ : ∃ y, y = (ptsL x).drop G := ⟨_, rfl⟩
              have hLl : L = PL.length := by rw [hPL, List.length_drop, HPl.out, ← HM.out]; exact hL
              have HEl : Hid (∀ (t : Nat) p, PL[t]? = some p → w6.cell? ⟨gp, G * 2 + t * 2, none⟩ = some (.int .i64 p.1) ∧ w6.cell? ⟨gp, G * 2 + t * 2 + 1, none⟩ = some (.int .i64 p.2) ∧ Sm p) := hid (fun t p hp => by
                rw [hPL, List.getElem?_drop] at hp
                have hfl := flat_get _ _ _ hp
                rw [← ptW_flat] at hfl
                rw [cell_of_row _ _ _ _ _ _ Hgp.out, cell_of_row _ _ _ _ _ _ Hgp.out]
                refine ⟨?_, ?_, HSm.out _ (List.mem_of_getElem? hp)⟩
                · rw [show G * 2 + t * 2 = (G + t) * 2 by omega]
                  simpa [NA] using hfl.1
                · rw [show G * 2 + t * 2 + 1 = (G + t) * 2 + 1 by omega]
                  simpa [NA] using hfl.2)
              rw [← hL]
              rw [← hPL] at HF3
              have hLm : L ≤ 3 := by have := HM.out; omega
              have HLl := hid hLl
              have Hg6 : Hid (gp ≠ mb) := hid (fun e => by
                obtain ⟨⟨D, ⟨es, cl, h1, _⟩, _⟩, _, _⟩ := HS6.out
                rw [← e, Hgp.out] at h1
                cases h1)
              clear hL hPL hLl hGm hGl hG0 c6 HB6'
              go_loopw [75] (fun i wq => ∃ (t : Nat), t ≤ L ∧ i = .int .i64 t ∧ Hid (PSet wq mb (addP M (PL.take t))) ∧ Hid (Below w.heap.size w wq) ∧ Hid (wq.heap[w.heap.size]? = some (.cells (NA z) 24 (0, 0))) ∧ Hid (wq.heap[gp]? = w6.heap[gp]?)) (fun i _ => L - (intOf i).toNat)
              case atStart => exact ⟨0, by omega, rfl, HS6, HW6, HI6, hid rfl⟩
              case round =>
                obtain ⟨t, ht, rfl, HPt, HBt, HIt, HEt⟩ := hrel
                by_cases hlt2 : t < L
                · obtain ⟨p, hp⟩ : ∃ p, PL[t]? = some p := ⟨_, List.getElem?_eq_getElem (by rw [← HLl.out]; exact hlt2)⟩
                  obtain ⟨e1, e2, e3⟩ := HEl.out t p hp
                  have d1 : wr.cell? ⟨gp, G * 2 + t * 2, none⟩ = some (.int .i64 p.1) := by unfold World.cell? at e1 ⊢; rw [HEt.out]; exact e1
                  have d2 : wr.cell? ⟨gp, G * 2 + t * 2 + 1, none⟩ = some (.int .i64 p.2) := by unfold World.cell? at e2 ⊢; rw [HEt.out]; exact e2
                  have t0 : (0 : Int) ≤ (t : Int) := by omega
                  have t1 : (t : Int) < (L : Int) := by omega
                  have htk : addP M (PL.take (t + 1)) = insP (addP M (PL.take t)) p := by rw [List.take_add_one, hp]; simp [addP]
                  have HTK := hid htk
                  have HSp := hid e3
                  have hpw := HPt.out.lt
                  clear e1 e2 e3 htk hp
                  go_wp2_with (first
                    | (at_mapUpdate; refine wp_storeP rfl _ _ _ rfl mb (addP M (PL.take t)) p rfl rfl rfl (HPt.out.keep (Below.heap_alloc _ _ _ hpw)) HSp.out HPt.out.few ?_; intro w8 hp8 ht8))
                  have hsz8 : (wr.alloc (.cells #[.int .i64 p.1, .int .i64 p.2] 74)).heap.size = wr.heap.size + 1 := by simp
                  refine ⟨⟨t + 1, by omega, by go_num, by rw [HTK.out]; exact hid hp8, hid (ht8.below (HBt.out.alloc HBt.out.size _) (by omega) (by have := HBt.out.size; omega)), ?_, ?_⟩, by simp [intOf]; omega⟩
                  · have := slt HIt.out
                    rw [ht8.block _ (by omega) (by omega), Below.heap_alloc _ _ _ this]; exact HIt
                  · have hg : gp < wr.heap.size := by have := HEt.out; rw [Hgp.out] at this; exact slt this
                    rw [ht8.block _ (by omega) Hg6.out, Below.heap_alloc _ _ _ hg]; exact HEt
                · obtain rfl : t = L := by omega
                  have hge : ¬ ((t : Int) < (t : Int)) := by omega
                  have HPL : Hid (PSet wr mb (addP M PL)) := by have := HPt.out; rw [HLl.out, List.take_length] at this; exact this
                  go_wp2_with fail
                  exact ⟨⟨j + 1, _, by omega, by go_num, HF3, HPL, HBt, HIt⟩, by simp [intOf]; omega⟩
            · rw [if_neg h1] at HF3
              go_wp2_with fail
              exact ⟨⟨j + 1, M, by omega, by go_num, HF3, HS6, HW6, HI6⟩, by simp [intOf]; omega⟩
          · have HF3 := hid (HF2.out.trans (if_neg h3))
            have HE := hid (needR_err HA.out HF3.out h3)
            go_wp2_with fail
            exact bodyPost_ret (results_2t Try.results10 _ _) rfl ⟨by rw [HE.out]; rfl, HW6.out⟩
        · obtain rfl : j = k := by omega
          have hge : ¬ ((j : Int) < (j : Int)) := by omega
          have HF2 : Hid (needM s z ks [] = (M, 0)) := by rw [HF.out, List.drop_of_length_le (by rw [← HN.out]; exact Nat.le_refl _)]; exact hid rfl
          have HE := hid (needR_ok HA.out HF2.out)
          have hL := fun ty => HP.out.len ty
          go_wp2_with fail
          exact bodyPost_ret (results_2t Try.results10 _ _) rfl ⟨by rw [HE.out]; rfl, HBq.out⟩

end Go.Proofs.Ytjlhmojofjkkdab
