/-
 The document's sight: the slots of a directory, walked.
-/
import Derived.Test.YtpmignilhoihnaaGreatLS2
import Derived.Maps.AppendAt
import Derived.Deep.DeepMust
import Derived.Test.YtpmignilhoihnaaGreatRI3
import Derived.Test.YtpmignilhoihnaaGreatS8
import Derived.Test.YtpmignilhoihnaaGreatHE6
namespace Go.Proofs.YtpmignilhoihnaaGreat
open Go.RowKit Go.Shelf

def BOw (w : World) (B : Nat) (v : Value) (l : List Int) : Prop := w.ownsRow B 5 1 v l.length (l.map (Value.int .u8))
theorem info8 : ∃ i, Tryz.prog.info? 5 = some i ∧ i.zero = some (.int .u8 0) ∧ i.size = 1 ∧ i.bytes = 1 := by
 have h : (Tryz.prog.info? 5).map (fun i => (i.zero, i.size, i.bytes)) = some (some (.int .u8 0), 1, 1) := by kernel_rfl
 cases hq : Tryz.prog.info? 5 with
 | none => rw [hq] at h; cases h
 | some i =>
  rw [hq] at h
  simp at h
  exact ⟨i, rfl, h.1, h.2.1, h.2.2⟩
theorem bow_keep {w w' : World} {B : Nat} {v : Value} {l : List Int} (h : BOw w B v l) (hb : Below w.heap.size w w') : BOw w' B v l := by
 refine ⟨h.1, ?_⟩
 rcases h.2 with h | ⟨g, cap, cur, rfl, hg, hk, r⟩
 ·exact .inl h
 ·exact .inr ⟨g, cap, cur, rfl, hg, by rw [hb.block _ (slt hk)]; exact hk, r⟩
theorem bow_ge {w : World} {B : Nat} {v : Value} {l : List Int} (h : BOw w B v l) {j : Nat} (hj : v.ownBlock = some j) : B ≤ j ∧ j < w.heap.size := by
 rcases h.2 with ⟨rfl, _⟩ | ⟨g, cap, cur, rfl, hg, hb, _⟩
 ·simp [Value.ownBlock] at hj
 ·have e : g = j := by simpa [Value.ownBlock] using hj
  subst e
  exact ⟨hg, slt hb⟩
theorem wp_app8 {ops : Array Oper} {rest : List Oper} {o : Oper} {a : Act} {Q : Exit → Act → World → Prop} {w : World} (hg : o.guard = none) (s x : Operand) (hop : o.op = .call { callee := .builtin .append, args := #[s, x], argTypes := #[140, 140] }) (base g c : Nat) (v : Value) (l : List Int) (y : Int) (hs : a.eval s = v) (hx : a.eval x = .slice (some ⟨g, 0, none⟩) 1 c)
  (hown : BOw w base v l) (hat : w.cell? ⟨g, 0, none⟩ = some (.int .u8 y)) (hl : l.length ≤ 1000000000000) (hbase : base ≤ w.heap.size)
  (hK : ∀ v' w', BOw w' base v' (l ++ [y]) → w.grownBy w' v.ownBlock → wpList Tryz.prog ops Q rest (a.put o.dst v') w') : wpList Tryz.prog ops Q (o :: rest) a w := by
 obtain ⟨i, hi, hz, hsz, hby⟩ := info8;refine wpList_append_own_at w hg s x 140 hop base 5 i _ 1 1 Tryz.underlying140 hi hz hsz hby rfl (by decide) v l.length (l.map (Value.int .u8)) hs hown ⟨g, 0, none⟩ 1 c [.int .u8 y] hx rfl (fun j u hj => ?_) (by simp [Value.oneCell']) (by unfold maxLen; omega) (by omega) hbase ?_
 ·cases j with
  | zero => simp at hj; subst hj; exact hat
  | succ j => simp at hj
 ·intro v' w' h1 h2 _ h4
  refine hK v' w' ?_ h2;unfold BOw;rw [List.map_append, List.length_append]
  exact h1
theorem conv_bow {w : World} {B : Nat} {v : Value} {l : List Int} (h : BOw w B v l) : (convert 140 9 v).run Tryz.prog w = .ok (.string (strOf l)) w := by
 rcases h.2 with ⟨rfl, h0⟩ | ⟨g, cap, cur, rfl, hg, hb, hc, hm, hs, ht⟩
 ·have e : l = [] := List.length_eq_zero_iff.1 h0
  subst e;rw [run_convert_bytes_string w 140 9 5 _ _ _ Tryz.underlying140 Tryz.underlying5 Tryz.underlying9]
  simp [Conv.bytesToString, strOf]; rfl
 ·refine conv_bytes w g 0 l cap (fun j hj => ?_)
  rw [Nat.zero_add, cell_of_row _ _ _ _ _ _ hb]
  have h1 : (cur.toList.take (l.length * 1))[j]? = some (.int .u8 (l.getD j 0)) := by rw [ht]; simp [hj]
  rw [List.getElem?_take, if_pos (by omega)] at h1;rw [← Array.getElem?_toList]; exact h1
theorem wr_keep6 {w w1 w2 : World} {c : List Int} {g : Nat} {o : Obj} (h : Wrote (w1.alloc (.cells (SA Zs) 33)) w1.heap.size c w2) (hb : Below w.heap.size w w1) (hg : w.heap[g]? = some o) : w2.heap[g]? = some o := by
 have := slt hg;have := hb.size;rw [h.other _ (by omega), Below.heap_alloc _ _ _ (by omega), hb.block _ (by omega)]
 exact hg
theorem pr_keep6 {w w1 w2 : World} {c z : Array Value} {t : TypeId} {g : Nat} {o : Obj} (h : PutR (w1.alloc (.cells z t)) w1.heap.size c t w2) (hb : Below w.heap.size w w1) (hg : w.heap[g]? = some o) : w2.heap[g]? = some o := by
 have := slt hg;have := hb.size;rw [h.other _ (by omega), Below.heap_alloc _ _ _ (by omega), hb.block _ (by omega)]
 exact hg
theorem szL3 : (Tryz.prog.info? 83).map (·.size) = some 2 := by kernel_rfl
theorem szSlot (n : Int) (s : ByteArray) : (Tryz.prog.info? 83).map (·.size) = some (#[Value.int .i64 n, Value.string s] : Array Value).size := szL3
theorem rd_far {s : List Int} (hs : IsSec s) (h : ¬ szOf s ≤ 40) (N : Int) : ¬ (slotB N ⟨#[]⟩ = true ∧ slotS N ⟨#[]⟩ = s) := by
 rintro ⟨h1, h2⟩
 have hN : N = 0 := by
  unfold slotB at h1
  split at h1
  ·assumption
  ·rw [Bool.and_eq_true] at h1
   have := h1.2
   simp [nameB] at this
   exact absurd this.1.1 (by decide)
 subst hN;rw [(slot_zero ⟨#[]⟩ toList_nil).1] at h2;subst h2
 exact h (by decide)

set_option maxRecDepth 100000 in
set_option maxHeartbeats 4000000 in
theorem rreadSlot_any (s : List Int) (hs : IsSec s) (w : World) :
  Calls Tryz.prog 60 #[.agg (SA s)] w fun e w' => e = .returned (.tuple #[.agg (SLA (rdSlot (getV s 0 4) s).1 (rdSlot (getV s 0 4) s).2.1), .int .i64 (rdSlot (getV s 0 4) s).2.2]) ∧ Below w.heap.size w w' := by
 have hz := zero_sec;have hl := hs.1
 have e1 : sayV s 0 4 = getV s 0 4 := by
  have h1 := getV_small (P := 0) (L := 4) hs (by decide) (by decide) (by decide);have h2 := sayV_small (s := s) (P := 0) (L := 4) (by decide)
  exact h2.trans h1.symm
 have e2 : sayV s 4 1 = (szOf s : Int) := by
  have h1 := getV_4 hs;have h2 := getV_small (P := 4) (L := 1) hs (by decide) (by decide) (by decide);have h3 := sayV_small (s := s) (P := 4) (L := 1) (by decide)
  exact (h3.trans h2.symm).trans h1
 have hy1 := fun w' => says_any s 0 4 w' hs (by decide) (by decide) (by decide) (by decide)
 have hy2 := fun w' => says_any s 4 1 w' hs (by decide) (by decide) (by decide) (by decide)
 rw [e1] at hy1;rw [e2] at hy2;have hK255 := szOf_le hs
 have HRD : Hid (∀ M, (szOf s ≤ 40 → M = nameOf s) → (¬ szOf s ≤ 40 → M = ⟨#[]⟩) → rdSlot (getV s 0 4) s = if slotB (getV s 0 4) M = true ∧ slotS (getV s 0 4) M = s then (getV s 0 4, M, 0) else (0, ⟨#[]⟩, 63)) := by
  intro M h1 h2
  unfold rdSlot
  by_cases hk : szOf s ≤ 40
  ·rw [h1 hk]; simp [hk]
  ·rw [h2 hk, if_neg (fun h => hk h.1), if_neg (rd_far hs hk _)]
 have HNM : Hid (∀ h : szOf s ≤ 40, nameOf s = strOf (((s.drop 5).take (szOf s)))) := fun _ => rfl
 have HBY : Hid (∀ j, j < 123 → (s.drop 5)[j]? = some (s.getD (5 + j) 0)) := fun j hj => by
  rw [List.getElem?_drop, List.getD_eq_getElem?_getD, List.getElem?_eq_getElem (by omega)]; rfl
 generalize getV s 0 4 = N at *
 generalize hKe : szOf s = K at *
 clear hKe e1 e2;obtain ⟨W, hW⟩ : ∃ x, x = (w.alloc (.cells (SA s) 33)).alloc (.cells #[.int .i64 0, .string ⟨#[]⟩] 83) := ⟨_, rfl⟩
 have G0 : Hid (W.heap[w.heap.size]? = some (.cells (SA s) 33 (0, 0))) := by show _ = _; rw [hW]; exact heap_alloc2_old w _ _
 have G1 : Hid (W.heap[w.heap.size + 1]? = some (.cells #[.int .i64 0, .string ⟨#[]⟩] 83 (0, 0))) := by show _ = _; rw [hW]; exact heap_alloc2_new w _ _
 have HB : Hid (Below w.heap.size w W) := by show Below _ _ _; rw [hW]; exact ((Below.refl _ _).alloc (Nat.le_refl _) _).alloc (by simp) _
 have hbld : ∀ w', (Instr.build 83 #[(0, .int .i64 N)]).run Tryz.prog w' = .ok (.agg #[.int .i64 N, .string ⟨#[]⟩]) w' := fun w' => by kernel_rfl
 have hbl0 : ∀ w', (Instr.build 83 #[]).run Tryz.prog w' = .ok (.agg #[.int .i64 0, .string ⟨#[]⟩]) w' := fun w' => by kernel_rfl
 have hzl : ∀ w', (zeroValue 83).run Tryz.prog w' = .ok (.agg #[.int .i64 0, .string ⟨#[]⟩]) w' := fun w' => by kernel_rfl
 go_enter Tryz.func60, Tryz.ntmps60
 go_upto_region 1 with fail
 rw [← hW];clear hW
 go_upto_region 2 with (first | refine load_sec rfl (.tmp 1) rfl w.heap.size rfl s hl G0.out ?_ | (go_at_call 37; refine (hy1 _).mono ?_; rintro e w2 ⟨rfl, hb2⟩) | (refine store_R rfl 83 (.tmp 4) _ rfl w2.heap.size _ rfl rfl 83 _ (heap_alloc_new _ _) (by rw [szL3]; rfl) rfl (by simp [Value.oneCell']) ?_; intro w3 hw3))
 have G0a := hid (pr_keep6 hw3 hb2 G0.out);have G1a := hid (pr_keep6 hw3 hb2 G1.out);have X3 := hid hw3.here;have HBa : Hid (Below w.heap.size w w3) := hw3.below ((btr HB.out hb2 HB.out.size).alloc (Nat.le_trans HB.out.size hb2.size) _) (Nat.le_trans HB.out.size hb2.size)
 have hg4 : w.heap.size + 2 ≤ w2.heap.size := by have h1 := slt G1.out; have h2 := hb2.size; omega
 obtain ⟨g4, hg4e⟩ : ∃ y, y = w2.heap.size := ⟨_, rfl⟩;rw [← hg4e] at X3 hg4 ⊢;clear hg4e hw3 hb2 G0 G1 HB hy1
 go_upto_region 3 with (first | refine load_sec rfl (.tmp 1) rfl w.heap.size rfl s hl G0a.out ?_ | (go_at_call 37; refine (hy2 _).mono ?_; rintro e w5 ⟨rfl, hb5⟩))
 have G0b : Hid (w5.heap[w.heap.size]? = some (.cells (SA s) 33 (0, 0))) := by show _ = _; rw [hb5.block _ (slt G0a.out)]; exact G0a.out
 have G1b : Hid (w5.heap[w.heap.size + 1]? = some (.cells #[.int .i64 0, .string ⟨#[]⟩] 83 (0, 0))) := by show _ = _; rw [hb5.block _ (slt G1a.out)]; exact G1a.out
 have X5 : Hid (w5.heap[g4]? = some (.cells #[.int .i64 N, .string ⟨#[]⟩] 83 (0, 0))) := by show _ = _; rw [hb5.block _ (slt X3.out)]; exact X3.out
 have HBb := hid (btr HBa.out hb5 HBa.out.size);clear G0a G1a X3 HBa hb5 hy2
 by_cases hk : K ≤ 40
 case neg =>
  have hk' : ¬ (K : Int) ≤ 40 := by omega
  obtain ⟨NM, hNM⟩ : ∃ y : ByteArray, y = ⟨#[]⟩ := ⟨_, rfl⟩
  have hM1 : K ≤ 40 → NM = nameOf s := fun h => absurd h hk
  have hM2 : ¬ K ≤ 40 → NM = ⟨#[]⟩ := fun _ => hNM
  have hNs : NM.size ≤ 40 := by rw [hNM]; decide
  rw [← hNM] at X5;clear hNM
  have hsl := fun w' => rslotSector_any N NM w' (by omega)
  have HRE := hid (HRD.out NM hM1 hM2);clear hM1 hM2 HRD;have HSS := hid (slotS_sec N NM);have HES : Hid (slotE N NM = if slotB N NM = true then 0 else 63) := rfl
  generalize slotS N NM = TT at *
  generalize slotE N NM = EE at *
  have hlt := HSS.out.1
  go_upto_region 11 with (first | refine load_R rfl 83 (.tmp 4) rfl g4 rfl 83 #[.int .i64 N, .string NM] _ X5.out Tryz.underlying83 rfl (szSlot N NM) ?_ | (go_at_call 39; refine (hsl _).mono ?_; rintro e w20 ⟨rfl, hb20⟩) | (refine store_sec rfl (.tmp 8) _ rfl w20.heap.size rfl TT rfl hlt Zs Zs_len (heap_alloc_new _ _) ?_; intro w21 hw21))
  have G0z := hid (wr_keep6 hw21 hb20 G0b.out);have G1z := hid (wr_keep6 hw21 hb20 G1b.out);have Xz := hid (wr_keep6 hw21 hb20 X5.out);have Tz := hid hw21.here;have HBz : Hid (Below w.heap.size w w21) := hw21.below ((btr HBb.out hb20 HBb.out.size).alloc (Nat.le_trans HBb.out.size hb20.size) _) (Nat.le_trans HBb.out.size hb20.size);obtain ⟨g8, hg8⟩ : ∃ y, y = w20.heap.size := ⟨_, rfl⟩;rw [← hg8] at Tz ⊢;have HQ := hid (eq_sec TT s hlt hl);clear hg8 hw21 hb20 hsl
  cases hbv : slotB N NM
  ·have hE : EE = 63 := by rw [HES.out, hbv]; rfl
   subst hE
   have HR : Hid (rdSlot N s = (0, ⟨#[]⟩, 63)) := by show _ = _; rw [HRE.out, hbv]; rfl
   clear hbv
   go_wp2_with (refine store_R rfl 83 (.tmp 2) _ rfl (w.heap.size + 1) _ rfl rfl 83 _ G1z.out (by rw [szL3]; rfl) rfl (by simp [Value.oneCell']) ?_; intro w22 hw22)
   rw [HR.out]
   exact bodyPost_ret (v := .tuple #[.agg #[.int .i64 0, .string ⟨#[]⟩], .int .i64 63]) (results_R Tryz.results60 _ _ (w.heap.size + 1) _ 83 _ _ Tryz.underlying83 rfl (by rw [szL3]; rfl) rfl rfl hw22.here) rfl ⟨rfl, hw22.below HBz.out (by omega)⟩
  ·have hE : EE = 0 := by rw [HES.out, hbv]; rfl
   subst hE
   by_cases hts : TT = s
   ·have HR : Hid (rdSlot N s = (N, NM, 0)) := by show _ = _; rw [HRE.out, if_pos ⟨hbv, hts⟩]
    clear hbv;subst hts
    go_wp2_with (first | refine load_sec_g (.tmp 8) rfl g8 rfl TT hlt Tz.out rfl ?_ | refine load_sec_g (.tmp 1) rfl w.heap.size rfl TT hlt G0z.out rfl ?_ | refine neq_R rfl 33 (.tmp 40) (.tmp 41) rfl (SA TT) (SA TT) true rfl rfl (fun w' => by rw [HQ.out, decide_eq_true rfl]) guard_sec ?_ | refine load_R rfl 83 (.tmp 4) rfl g4 rfl 83 #[.int .i64 N, .string NM] _ Xz.out Tryz.underlying83 rfl (szSlot N NM) ?_ | (refine store_R rfl 83 (.tmp 2) _ rfl (w.heap.size + 1) _ rfl rfl 83 _ G1z.out (by rw [szL3]; rfl) rfl (by simp [Value.oneCell']) ?_; intro w22 hw22))
    rw [HR.out]
    exact bodyPost_ret (v := .tuple #[.agg #[.int .i64 N, .string NM], .int .i64 0]) (results_R Tryz.results60 _ _ (w.heap.size + 1) _ 83 _ _ Tryz.underlying83 rfl (by rw [szL3]; rfl) rfl rfl hw22.here) rfl ⟨rfl, hw22.below HBz.out (by omega)⟩
   ·have HR : Hid (rdSlot N s = (0, ⟨#[]⟩, 63)) := by show _ = _; rw [HRE.out, if_neg (fun h => hts h.2)]
    have HTS := hid hts;clear hbv hts
    go_wp2_with (first | refine load_sec_g (.tmp 8) rfl g8 rfl TT hlt Tz.out rfl ?_ | refine load_sec_g (.tmp 1) rfl w.heap.size rfl s hl G0z.out rfl ?_ | refine neq_R rfl 33 (.tmp 40) (.tmp 41) rfl (SA TT) (SA s) false rfl rfl (fun w' => by rw [HQ.out, decide_eq_false HTS.out]) guard_sec ?_ | (refine store_R rfl 83 (.tmp 2) _ rfl (w.heap.size + 1) _ rfl rfl 83 _ G1z.out (by rw [szL3]; rfl) rfl (by simp [Value.oneCell']) ?_; intro w22 hw22))
    rw [HR.out]
    exact bodyPost_ret (v := .tuple #[.agg #[.int .i64 0, .string ⟨#[]⟩], .int .i64 63]) (results_R Tryz.results60 _ _ (w.heap.size + 1) _ 83 _ _ Tryz.underlying83 rfl (by rw [szL3]; rfl) rfl rfl hw22.here) rfl ⟨rfl, hw22.below HBz.out (by omega)⟩
 have hk' : (K : Int) ≤ 40 := by omega
 go_upto_region 5 with fail
 go_wp2_with fail
 go_loopw [6, 7] (fun v i wr => ∃ j : Nat, j ≤ K ∧ i = .int .i64 j ∧ Hid (Below w5.heap.size w5 wr ∧ BOw wr w5.heap.size v ((s.drop 5).take j))) (fun _ i _ => K - (intOf i).toNat)
 case atStart => exact ⟨0, by omega, rfl, Below.refl _ _, ⟨rfl, .inl ⟨rfl, rfl⟩⟩⟩
 case round =>
  obtain ⟨j, hj, rfl, HR⟩ := hrel;obtain ⟨Wx, hWx⟩ : ∃ y, y = wr := ⟨_, rfl⟩;subst hWx
  by_cases hjk : j < K
  ·have G0x : Wx.heap[w.heap.size]? = some (.cells (SA s) 33 (0, 0)) := by rw [HR.out.1.block _ (slt G0b.out)]; exact G0b.out
   have p1 := sec_cell G0x (5 + j) (by omega);obtain ⟨y, hy⟩ : ∃ y, y = s.getD (5 + j) 0 := ⟨_, rfl⟩;rw [← hy] at p1
   have HT : Hid ((s.drop 5).take (j + 1) = (s.drop 5).take j ++ [y]) := by show _ = _; rw [List.take_add_one, HBY.out j (by omega), hy]; rfl
   have HLN : Hid (((s.drop 5).take j).length ≤ 1000000000000) := by show _ ≤ _; rw [List.length_take]; omega
   have hi2 : (5 : Int) + (j : Int) < 128 := by omega
   have hi3 : (0 : Int) ≤ 5 + (j : Int) := by omega
   have et : ((5 : Int) + (j : Int)).toNat = 5 + j := by omega
   clear hy G0x
   go_wp2_with (first | (at_builtin; go_must (refine wp_app8 rfl _ _ rfl w5.heap.size Wx.heap.size 1 _ ((s.drop 5).take j) y rfl rfl (bow_keep HR.out.2 ((Below.refl _ _).alloc (Nat.le_refl _) _)) (by rw [cell_of_row _ _ _ _ _ _ (heap_alloc_new _ _)]; rfl) HLN.out (by have := HR.out.1.size; simp; omega) ?_; intro v' w' h1 h2)) | go_in)
   refine ⟨⟨j + 1, by omega, by go_num, ?_, by rw [HT.out]; exact h1⟩, by simp [intOf]; omega⟩
   exact (HR.out.1.alloc HR.out.1.size _).trans ⟨h2.os, h2.tape, h2.output, h2.size, fun k hk2 => h2.block k (by have := HR.out.1.size; simp; omega) (fun e => by have := (bow_ge HR.out.2 e.symm).1; omega)⟩
  ·obtain rfl : j = K := by omega
   have hcv := conv_bow HR.out.2
   have G0x : Hid (Wx.heap[w.heap.size]? = some (.cells (SA s) 33 (0, 0))) := by show _ = _; rw [HR.out.1.block _ (slt G0b.out)]; exact G0b.out
   have G1x : Hid (Wx.heap[w.heap.size + 1]? = some (.cells #[.int .i64 0, .string ⟨#[]⟩] 83 (0, 0))) := by show _ = _; rw [HR.out.1.block _ (slt G1b.out)]; exact G1b.out
   have Xx : Hid (Wx.heap[g4]? = some (.cells #[.int .i64 N, .string ⟨#[]⟩] 83 (0, 0))) := by show _ = _; rw [HR.out.1.block _ (slt X5.out)]; exact X5.out
   have HBx := hid (btr HBb.out HR.out.1 HBb.out.size);obtain ⟨NM, hNM⟩ : ∃ y : ByteArray, y = strOf ((s.drop 5).take j) := ⟨_, rfl⟩
   have hM1 : j ≤ 40 → NM = nameOf s := fun h => by rw [HNM.out h]; exact hNM
   have hM2 : ¬ j ≤ 40 → NM = ⟨#[]⟩ := fun h => absurd hk h
   have hNs : NM.size ≤ 40 := by rw [hNM]; simp [strOf, ByteArray.size]; omega
   rw [← hNM] at hcv
   have p1 : Wx.cell? ⟨g4, 1, none⟩ = some (.string ⟨#[]⟩) := by rw [cell_of_row _ _ _ _ _ _ Xx.out]; rfl
   have hfr := frozen_of_row Wx g4 1 _ _ Xx.out
   have Xy : Hid ((Wx.setCell ⟨g4, 1, none⟩ (.string NM)).heap[g4]? = some (.cells #[.int .i64 N, .string NM] 83 (0, 0))) := by show _ = _; rw [heap_setCell_same Wx g4 1 _ 83 _ Xx.out]; rfl
   have G0y : Hid ((Wx.setCell ⟨g4, 1, none⟩ (.string NM)).heap[w.heap.size]? = some (.cells (SA s) 33 (0, 0))) := by show _ = _; rw [heap_setCell_other Wx ⟨g4, 1, none⟩ w.heap.size _ (by show w.heap.size ≠ g4; omega)]; exact G0x.out
   have G1y : Hid ((Wx.setCell ⟨g4, 1, none⟩ (.string NM)).heap[w.heap.size + 1]? = some (.cells #[.int .i64 0, .string ⟨#[]⟩] 83 (0, 0))) := by show _ = _; rw [heap_setCell_other Wx ⟨g4, 1, none⟩ (w.heap.size + 1) _ (by show w.heap.size + 1 ≠ g4; omega)]; exact G1x.out
   have HBy : Hid (Below w.heap.size w (Wx.setCell ⟨g4, 1, none⟩ (.string NM))) := HBx.out.trans ⟨rfl, rfl, rfl, by simp [World.setCell], fun k hk2 => heap_setCell_other Wx ⟨g4, 1, none⟩ k _ (fun e => by have e' : k = g4 := e; omega)⟩;have HM1 := hid hM1;have HM2 := hid hM2;clear hNM HR G0x G1x Xx HBx HNM HBY hM1 hM2
   go_upto_region 10 with fail
   try dsimp only [Act.put]
   generalize Wx.setCell ⟨g4, 1, none⟩ (.string NM) = Wy at *
   clear p1 hfr hcv;have hM1 := HM1.out;have hM2 := HM2.out;clear HM1 HM2
   have hsl := fun w' => rslotSector_any N NM w' (by omega)
   have HRE := hid (HRD.out NM hM1 hM2);clear hM1 hM2 HRD;have HSS := hid (slotS_sec N NM);have HES : Hid (slotE N NM = if slotB N NM = true then 0 else 63) := rfl
   generalize slotS N NM = TT at *
   generalize slotE N NM = EE at *
   have hlt := HSS.out.1
   go_upto_region 11 with (first | refine load_R rfl 83 (.tmp 4) rfl g4 rfl 83 #[.int .i64 N, .string NM] _ Xy.out Tryz.underlying83 rfl (szSlot N NM) ?_ | (go_at_call 39; refine (hsl _).mono ?_; rintro e w20 ⟨rfl, hb20⟩) | (refine store_sec rfl (.tmp 8) _ rfl w20.heap.size rfl TT rfl hlt Zs Zs_len (heap_alloc_new _ _) ?_; intro w21 hw21))
   have G0z := hid (wr_keep6 hw21 hb20 G0y.out);have G1z := hid (wr_keep6 hw21 hb20 G1y.out);have Xz := hid (wr_keep6 hw21 hb20 Xy.out);have Tz := hid hw21.here;have HBz : Hid (Below w.heap.size w w21) := hw21.below ((btr HBy.out hb20 HBy.out.size).alloc (Nat.le_trans HBy.out.size hb20.size) _) (Nat.le_trans HBy.out.size hb20.size);obtain ⟨g8, hg8⟩ : ∃ y, y = w20.heap.size := ⟨_, rfl⟩;rw [← hg8] at Tz ⊢;have HQ := hid (eq_sec TT s hlt hl);clear hg8 hw21 hb20 hsl
   cases hbv : slotB N NM
   ·have hE : EE = 63 := by rw [HES.out, hbv]; rfl
    subst hE
    have HR : Hid (rdSlot N s = (0, ⟨#[]⟩, 63)) := by show _ = _; rw [HRE.out, hbv]; rfl
    clear hbv
    go_wp2_with (refine store_R rfl 83 (.tmp 2) _ rfl (w.heap.size + 1) _ rfl rfl 83 _ G1z.out (by rw [szL3]; rfl) rfl (by simp [Value.oneCell']) ?_; intro w22 hw22)
    rw [HR.out]
    exact bodyPost_ret (v := .tuple #[.agg #[.int .i64 0, .string ⟨#[]⟩], .int .i64 63]) (results_R Tryz.results60 _ _ (w.heap.size + 1) _ 83 _ _ Tryz.underlying83 rfl (by rw [szL3]; rfl) rfl rfl hw22.here) rfl ⟨rfl, hw22.below HBz.out (by omega)⟩
   ·have hE : EE = 0 := by rw [HES.out, hbv]; rfl
    subst hE
    by_cases hts : TT = s
    ·have HR : Hid (rdSlot N s = (N, NM, 0)) := by show _ = _; rw [HRE.out, if_pos ⟨hbv, hts⟩]
     clear hbv;subst hts
     go_wp2_with (first | refine load_sec_g (.tmp 8) rfl g8 rfl TT hlt Tz.out rfl ?_ | refine load_sec_g (.tmp 1) rfl w.heap.size rfl TT hlt G0z.out rfl ?_ | refine neq_R rfl 33 (.tmp 40) (.tmp 41) rfl (SA TT) (SA TT) true rfl rfl (fun w' => by rw [HQ.out, decide_eq_true rfl]) guard_sec ?_ | refine load_R rfl 83 (.tmp 4) rfl g4 rfl 83 #[.int .i64 N, .string NM] _ Xz.out Tryz.underlying83 rfl (szSlot N NM) ?_ | (refine store_R rfl 83 (.tmp 2) _ rfl (w.heap.size + 1) _ rfl rfl 83 _ G1z.out (by rw [szL3]; rfl) rfl (by simp [Value.oneCell']) ?_; intro w22 hw22))
     rw [HR.out]
     exact bodyPost_ret (v := .tuple #[.agg #[.int .i64 N, .string NM], .int .i64 0]) (results_R Tryz.results60 _ _ (w.heap.size + 1) _ 83 _ _ Tryz.underlying83 rfl (by rw [szL3]; rfl) rfl rfl hw22.here) rfl ⟨rfl, hw22.below HBz.out (by omega)⟩
    ·have HR : Hid (rdSlot N s = (0, ⟨#[]⟩, 63)) := by show _ = _; rw [HRE.out, if_neg (fun h => hts h.2)]
     have HTS := hid hts;clear hbv hts
     go_wp2_with (first | refine load_sec_g (.tmp 8) rfl g8 rfl TT hlt Tz.out rfl ?_ | refine load_sec_g (.tmp 1) rfl w.heap.size rfl s hl G0z.out rfl ?_ | refine neq_R rfl 33 (.tmp 40) (.tmp 41) rfl (SA TT) (SA s) false rfl rfl (fun w' => by rw [HQ.out, decide_eq_false HTS.out]) guard_sec ?_ | (refine store_R rfl 83 (.tmp 2) _ rfl (w.heap.size + 1) _ rfl rfl 83 _ G1z.out (by rw [szL3]; rfl) rfl (by simp [Value.oneCell']) ?_; intro w22 hw22))
     rw [HR.out]
     exact bodyPost_ret (v := .tuple #[.agg #[.int .i64 0, .string ⟨#[]⟩], .int .i64 63]) (results_R Tryz.results60 _ _ (w.heap.size + 1) _ 83 _ _ Tryz.underlying83 rfl (by rw [szL3]; rfl) rfl rfl hw22.here) rfl ⟨rfl, hw22.below HBz.out (by omega)⟩

end Go.Proofs.YtpmignilhoihnaaGreat

namespace Go.Proofs.YtpmignilhoihnaaGreat
open Go.RowKit

theorem say_small {s : List Int} {P L : Nat} (h7 : L ≤ 7) : sayV s P L = numAt s P L := by
 unfold sayV;rw [if_neg (fun k => by have := k.1; omega)]
 simp
theorem pls_small : ∀ m, m < 18 → m ≠ 3 → ∃ P L : Nat, pls.getD m (0, 0) = ((P : Int), (L : Int)) ∧ P + L ≤ 128 ∧ 1 ≤ L ∧ L ≤ 7 := by
 intro m hm h3
 refine ⟨(pls.getD m (0, 0)).1.toNat, (pls.getD m (0, 0)).2.toNat, ?_⟩
 revert m
 decide
theorem same_at {s : List Int} (hs : IsSec s) {m : Nat} (hm : m < 18) (h3 : m ≠ 3) : gv s m = pv s m := by
 obtain ⟨P, L, e, h1, h2, h4⟩ := pls_small m hm h3;unfold gv pv;rw [e]
 show getV s (P : Int) (L : Int) = sayV s (P : Int) (L : Int)
 rw [getV_small hs h1 h2 h4, say_small h4]
theorem same_3 {s : List Int} (hs : IsSec s) : gv s 3 = pv s 3 ∨ (¬ (0 ≤ gv s 3 ∧ gv s 3 ≤ 1099511627776) ∧ ¬ (0 ≤ pv s 3 ∧ pv s 3 ≤ 1099511627776)) := by
 have eg : gv s 3 = if numAt s 8 8 ≤ top then numAt s 8 8 else -1 := by
  show getV s 8 8 = _
  unfold getV getE getN;rw [if_pos (show inB 8 8 = true by decide)]
  by_cases h : numAt s 8 8 ≤ top
  ·have h' : numAt s (8 : Int).toNat (8 : Int).toNat ≤ top := h
   rw [if_pos h', if_pos rfl, if_pos ⟨by decide, h'⟩, if_pos h]
   rfl
  ·have h' : ¬ numAt s (8 : Int).toNat (8 : Int).toNat ≤ top := h
   rw [if_neg h', if_neg (by decide), if_neg h]
 have ep : pv s 3 = if s.getD 15 0 ≠ 0 then -1 else numAt s 8 8 := by
  show sayV s 8 8 = _
  unfold sayV
  by_cases h : s.getD 15 0 ≠ 0
  ·rw [if_pos h, if_pos ⟨rfl, h⟩]
  ·rw [if_neg h, if_neg (fun k => h k.2)]
   rfl
 have hb7 := numAt_bd hs 8 7;have e8 : numAt s 8 8 = numAt s 8 7 + s.getD 15 0 * 256 ^ 7 := rfl
 have e7 : (256 : Int) ^ 7 = 72057594037927936 := by decide
 have h15 := hs.at 15;rw [e7] at e8 hb7
 by_cases h : s.getD 15 0 = 0
 ·left
  have ht : numAt s 8 8 ≤ top := by rw [top_eq, e8, h]; omega
  rw [eg, ep, if_pos ht, if_neg (show ¬ s.getD 15 0 ≠ 0 from fun k => k h)]
 ·right
  refine ⟨?_, ?_⟩
  ·rw [eg]
   split
   ·omega
   ·omega
  ·rw [ep, if_pos h]
   omega
theorem get_map18 (f : Nat → Int) {m : Nat} (hm : m < 18) : ((List.range 18).map f).getD m 0 = f m := by
 rw [List.getD_eq_getElem?_getD, List.getElem?_map, List.getElem?_range hm]
 rfl
theorem zTo_at (s : List Int) {m : Nat} (hm : m < 18) : (zTo s 18).getD m 0 = gv s m := by
 unfold zTo;rw [get_map18 _ hm, if_pos hm]
theorem yA_at (s : List Int) {m : Nat} (hm : m < 18) : (yA s).getD m 0 = pv s m := by
 unfold yA yTo;rw [get_map18 _ hm, if_pos (by omega)]
theorem yA_len (s : List Int) : (yA s).length = 18 := yTo_len s 12
theorem inoB_far {z : List Int} (h : ¬ (0 ≤ z.getD 3 0 ∧ z.getD 3 0 ≤ 1099511627776)) : inoB z = false := by
 unfold inoB
 split
 ·apply decide_eq_false
  intro e
  rw [e] at h
  exact h (by decide)
 ·rw [allB_false (m := 3) (by decide) h]
  rfl
theorem rd_same {s : List Int} (hs : IsSec s) : rdIno (yA s) s = rdIno (zTo s 18) s := by
 rcases same_3 hs with h | ⟨h1, h2⟩
 ·have e : yA s = zTo s 18 := by
   apply List.ext_getElem (by rw [yA_len, zTo_len])
   intro i k1 k2
   rw [yA_len] at k1;have a1 := yA_at s k1;have a2 := zTo_at s k1;rw [List.getD_eq_getElem?_getD, List.getElem?_eq_getElem (by rw [yA_len]; exact k1)] at a1;rw [List.getD_eq_getElem?_getD, List.getElem?_eq_getElem k2] at a2
   have a3 : gv s i = pv s i := by
    by_cases c : i = 3
    ·rw [c]; exact h
    ·exact same_at hs k1 c
   simp only [Option.getD_some] at a1 a2
   rw [a1, a2, a3]
  rw [e]
 ·have f1 : inoB (zTo s 18) = false := inoB_far (by rw [zTo_at s (by decide)]; exact h1)
  have f2 : inoB (yA s) = false := inoB_far (by rw [yA_at s (by decide)]; exact h2);unfold rdIno;rw [f1, f2]
  simp

end Go.Proofs.YtpmignilhoihnaaGreat

namespace Go.Proofs.YtpmignilhoihnaaGreat
open Go.RowKit Go.Shelf

section
variable {ops : Array Oper} {rest : List Oper} {o : Oper} {a : Act} {Q : Exit → Act → World → Prop} {w : World}
end
theorem rslot_c (s : List Int) (hs : IsSec s) (w : World) : Calls Tryz.prog 60 #[.agg (SA s)] w fun e w' => e = .returned (.tuple #[.agg #[.int .i64 (slotOf s).1, .string (slotOf s).2.1], .int .i64 (slotOf s).2.2]) ∧ Chg w w' No := by
 refine (rreadSlot_any s hs w).mono ?_
 rintro e w' ⟨rfl, hb⟩
 exact ⟨rfl, Chg.of_below hb No⟩
end Go.Proofs.YtpmignilhoihnaaGreat

namespace Go.Proofs.YtpmignilhoihnaaGreat
open Go.RowKit Go.Shelf

end Go.Proofs.YtpmignilhoihnaaGreat
