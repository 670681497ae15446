/-
 The document's sight: rows of inodes and of numbers, in memory.
-/
import Derived.Test.YtpmignilhoihnabGreatLS2
import Derived.Test.YtpmignilhoihnabGreatLP2
import Derived.Maps.AppendAt
import Derived.Deep.DeepMust
import Derived.Test.YtpmignilhoihnabGreatS4
import Derived.Test.YtpmignilhoihnabGreatHE4
import Derived.Test.YtpmignilhoihnabGreatRI3
import Derived.Test.YtpmignilhoihnabGreatLN2
import Derived.Test.YtpmignilhoihnabGreatR1
import Derived.Test.YtpmignilhoihnabGreatHE6
import Derived.BigQuiet
namespace Go.Proofs.YtpmignilhoihnabGreat
open Go.RowKit Go.Shelf

def BOw (w : World) (B : Nat) (v : Value) (l : List Int) : Prop := w.ownsRow B 5 1 v l.length (l.map (Value.int .u8))
theorem info8 : ∃ i, Tryz.prog.info? 5 = some i ∧ i.zero = some (.int .u8 0) ∧ i.size = 1 ∧ i.bytes = 1 := by
 have h : (Tryz.prog.info? 5).map (fun i => (i.zero, i.size, i.bytes)) = some (some (.int .u8 0), 1, 1) := by kernel_rfl
 cases hq : Tryz.prog.info? 5 with
 | none => rw [hq] at h; cases h
 | some i =>
  rw [hq] at h
  simp at h
  exact ⟨i, rfl, h.1, h.2.1, h.2.2⟩
theorem bow_keep {w w' : World} {B : Nat} {v : Value} {l : List Int} (h : BOw w B v l) (hb : Below w.heap.size w w') : BOw w' B v l := by
 refine ⟨h.1, ?_⟩
 rcases h.2 with h | ⟨g, cap, cur, rfl, hg, hk, r⟩
 ·exact .inl h
 ·exact .inr ⟨g, cap, cur, rfl, hg, by rw [hb.block _ (slt hk)]; exact hk, r⟩
theorem bow_ge {w : World} {B : Nat} {v : Value} {l : List Int} (h : BOw w B v l) {j : Nat} (hj : v.ownBlock = some j) : B ≤ j ∧ j < w.heap.size := by
 rcases h.2 with ⟨rfl, _⟩ | ⟨g, cap, cur, rfl, hg, hb, _⟩
 ·simp [Value.ownBlock] at hj
 ·have e : g = j := by simpa [Value.ownBlock] using hj
  subst e
  exact ⟨hg, slt hb⟩
theorem wp_app8 {ops : Array Oper} {rest : List Oper} {o : Oper} {a : Act} {Q : Exit → Act → World → Prop} {w : World} (hg : o.guard = none) (s x : Operand) (hop : o.op = .call { callee := .builtin .append, args := #[s, x], argTypes := #[124, 124] }) (base g c : Nat) (v : Value) (l : List Int) (y : Int) (hs : a.eval s = v) (hx : a.eval x = .slice (some ⟨g, 0, none⟩) 1 c)
  (hown : BOw w base v l) (hat : w.cell? ⟨g, 0, none⟩ = some (.int .u8 y)) (hl : l.length ≤ 1000000000000) (hbase : base ≤ w.heap.size)
  (hK : ∀ v' w', BOw w' base v' (l ++ [y]) → w.grownBy w' v.ownBlock → wpList Tryz.prog ops Q rest (a.put o.dst v') w') : wpList Tryz.prog ops Q (o :: rest) a w := by
 obtain ⟨i, hi, hz, hsz, hby⟩ := info8;refine wpList_append_own_at w hg s x 124 hop base 5 i _ 1 1 Tryz.underlying124 hi hz hsz hby rfl (by decide) v l.length (l.map (Value.int .u8)) hs hown ⟨g, 0, none⟩ 1 c [.int .u8 y] hx rfl (fun j u hj => ?_) (by simp [Value.oneCell']) (by unfold maxLen; omega) (by omega) hbase ?_
 ·cases j with
  | zero => simp at hj; subst hj; exact hat
  | succ j => simp at hj
 ·intro v' w' h1 h2 _ h4
  refine hK v' w' ?_ h2;unfold BOw;rw [List.map_append, List.length_append]
  exact h1
theorem conv_bow {w : World} {B : Nat} {v : Value} {l : List Int} (h : BOw w B v l) : (convert 124 9 v).run Tryz.prog w = .ok (.string (strOf l)) w := by
 rcases h.2 with ⟨rfl, h0⟩ | ⟨g, cap, cur, rfl, hg, hb, hc, hm, hs, ht⟩
 ·have e : l = [] := List.length_eq_zero_iff.1 h0
  subst e;rw [run_convert_bytes_string w 124 9 5 _ _ _ Tryz.underlying124 Tryz.underlying5 Tryz.underlying9]
  simp [Conv.bytesToString, strOf]; rfl
 ·refine conv_bytes w g 0 l cap (fun j hj => ?_)
  rw [Nat.zero_add, cell_of_row _ _ _ _ _ _ hb]
  have h1 : (cur.toList.take (l.length * 1))[j]? = some (.int .u8 (l.getD j 0)) := by rw [ht]; simp [hj]
  rw [List.getElem?_take, if_pos (by omega)] at h1;rw [← Array.getElem?_toList]; exact h1
theorem wr_keep6 {w w1 w2 : World} {c : List Int} {g : Nat} {o : Obj} (h : Wrote (w1.alloc (.cells (SA Zs) 36)) w1.heap.size c w2) (hb : Below w.heap.size w w1) (hg : w.heap[g]? = some o) : w2.heap[g]? = some o := by
 have := slt hg;have := hb.size;rw [h.other _ (by omega), Below.heap_alloc _ _ _ (by omega), hb.block _ (by omega)]
 exact hg
theorem pr_keep6 {w w1 w2 : World} {c z : Array Value} {t : TypeId} {g : Nat} {o : Obj} (h : PutR (w1.alloc (.cells z t)) w1.heap.size c t w2) (hb : Below w.heap.size w w1) (hg : w.heap[g]? = some o) : w2.heap[g]? = some o := by
 have := slt hg;have := hb.size;rw [h.other _ (by omega), Below.heap_alloc _ _ _ (by omega), hb.block _ (by omega)]
 exact hg
theorem szL3 : (Tryz.prog.info? 82).map (·.size) = some 2 := by kernel_rfl
theorem szSlot (n : Int) (s : ByteArray) : (Tryz.prog.info? 82).map (·.size) = some (#[Value.int .i64 n, Value.string s] : Array Value).size := szL3
theorem rd_far {s : List Int} (hs : IsSec s) (h : ¬ szOf s ≤ 40) (N : Int) : ¬ (slotB N ⟨#[]⟩ = true ∧ slotS N ⟨#[]⟩ = s) := by
 rintro ⟨h1, h2⟩
 have hN : N = 0 := by
  unfold slotB at h1
  split at h1
  ·assumption
  ·rw [Bool.and_eq_true] at h1
   have := h1.2
   simp [nameB] at this
   exact absurd this.1.1 (by decide)
 subst hN;rw [(slot_zero ⟨#[]⟩ toList_nil).1] at h2;subst h2
 exact h (by decide)

set_option maxRecDepth 100000 in
set_option maxHeartbeats 4000000 in
theorem rreadSlot_any (s : List Int) (hs : IsSec s) (w : World) :
  Calls Tryz.prog 76 #[.agg (SA s)] w fun e w' => e = .returned (.tuple #[.agg (SLA (rdSlot (getV s 0 4) s).1 (rdSlot (getV s 0 4) s).2.1), .int .i64 (rdSlot (getV s 0 4) s).2.2]) ∧ Below w.heap.size w w' := by
 have hz := zero_sec;have hl := hs.1
 have e1 : sayV s 0 4 = getV s 0 4 := by
  have h1 := getV_small (P := 0) (L := 4) hs (by decide) (by decide) (by decide);have h2 := sayV_small (s := s) (P := 0) (L := 4) (by decide)
  exact h2.trans h1.symm
 have e2 : sayV s 4 1 = (szOf s : Int) := by
  have h1 := getV_4 hs;have h2 := getV_small (P := 4) (L := 1) hs (by decide) (by decide) (by decide);have h3 := sayV_small (s := s) (P := 4) (L := 1) (by decide)
  exact (h3.trans h2.symm).trans h1
 have hy1 := fun w' => says_any s 0 4 w' hs (by decide) (by decide) (by decide) (by decide)
 have hy2 := fun w' => says_any s 4 1 w' hs (by decide) (by decide) (by decide) (by decide)
 rw [e1] at hy1;rw [e2] at hy2;have hK255 := szOf_le hs
 have HRD : Hid (∀ M, (szOf s ≤ 40 → M = nameOf s) → (¬ szOf s ≤ 40 → M = ⟨#[]⟩) → rdSlot (getV s 0 4) s = if slotB (getV s 0 4) M = true ∧ slotS (getV s 0 4) M = s then (getV s 0 4, M, 0) else (0, ⟨#[]⟩, 63)) := by
  intro M h1 h2
  unfold rdSlot
  by_cases hk : szOf s ≤ 40
  ·rw [h1 hk]; simp [hk]
  ·rw [h2 hk, if_neg (fun h => hk h.1), if_neg (rd_far hs hk _)]
 have HNM : Hid (∀ h : szOf s ≤ 40, nameOf s = strOf (((s.drop 5).take (szOf s)))) := fun _ => rfl
 have HBY : Hid (∀ j, j < 123 → (s.drop 5)[j]? = some (s.getD (5 + j) 0)) := fun j hj => by
  rw [List.getElem?_drop, List.getD_eq_getElem?_getD, List.getElem?_eq_getElem (by omega)]; rfl
 generalize getV s 0 4 = N at *
 generalize hKe : szOf s = K at *
 clear hKe e1 e2;obtain ⟨W, hW⟩ : ∃ x, x = (w.alloc (.cells (SA s) 36)).alloc (.cells #[.int .i64 0, .string ⟨#[]⟩] 82) := ⟨_, rfl⟩
 have G0 : Hid (W.heap[w.heap.size]? = some (.cells (SA s) 36 (0, 0))) := by show _ = _; rw [hW]; exact heap_alloc2_old w _ _
 have G1 : Hid (W.heap[w.heap.size + 1]? = some (.cells #[.int .i64 0, .string ⟨#[]⟩] 82 (0, 0))) := by show _ = _; rw [hW]; exact heap_alloc2_new w _ _
 have HB : Hid (Below w.heap.size w W) := by show Below _ _ _; rw [hW]; exact ((Below.refl _ _).alloc (Nat.le_refl _) _).alloc (by simp) _
 have hbld : ∀ w', (Instr.build 82 #[(0, .int .i64 N)]).run Tryz.prog w' = .ok (.agg #[.int .i64 N, .string ⟨#[]⟩]) w' := fun w' => by kernel_rfl
 have hbl0 : ∀ w', (Instr.build 82 #[]).run Tryz.prog w' = .ok (.agg #[.int .i64 0, .string ⟨#[]⟩]) w' := fun w' => by kernel_rfl
 have hzl : ∀ w', (zeroValue 82).run Tryz.prog w' = .ok (.agg #[.int .i64 0, .string ⟨#[]⟩]) w' := fun w' => by kernel_rfl
 go_enter Tryz.func76, Tryz.ntmps76
 go_upto_region 1 with fail
 rw [← hW];clear hW
 go_upto_region 2 with (first | refine load_sec rfl (.tmp 1) rfl w.heap.size rfl s hl G0.out ?_ | (go_at_call 25; refine (hy1 _).mono ?_; rintro e w2 ⟨rfl, hb2⟩) | (refine store_R rfl 82 (.tmp 4) _ rfl w2.heap.size _ rfl rfl 82 _ (heap_alloc_new _ _) (by rw [szL3]; rfl) rfl (by simp [Value.oneCell']) ?_; intro w3 hw3))
 have G0a := hid (pr_keep6 hw3 hb2 G0.out);have G1a := hid (pr_keep6 hw3 hb2 G1.out);have X3 := hid hw3.here;have HBa : Hid (Below w.heap.size w w3) := hw3.below ((btr HB.out hb2 HB.out.size).alloc (Nat.le_trans HB.out.size hb2.size) _) (Nat.le_trans HB.out.size hb2.size)
 have hg4 : w.heap.size + 2 ≤ w2.heap.size := by have h1 := slt G1.out; have h2 := hb2.size; omega
 obtain ⟨g4, hg4e⟩ : ∃ y, y = w2.heap.size := ⟨_, rfl⟩;rw [← hg4e] at X3 hg4 ⊢;clear hg4e hw3 hb2 G0 G1 HB hy1
 go_upto_region 3 with (first | refine load_sec rfl (.tmp 1) rfl w.heap.size rfl s hl G0a.out ?_ | (go_at_call 25; refine (hy2 _).mono ?_; rintro e w5 ⟨rfl, hb5⟩))
 have G0b : Hid (w5.heap[w.heap.size]? = some (.cells (SA s) 36 (0, 0))) := by show _ = _; rw [hb5.block _ (slt G0a.out)]; exact G0a.out
 have G1b : Hid (w5.heap[w.heap.size + 1]? = some (.cells #[.int .i64 0, .string ⟨#[]⟩] 82 (0, 0))) := by show _ = _; rw [hb5.block _ (slt G1a.out)]; exact G1a.out
 have X5 : Hid (w5.heap[g4]? = some (.cells #[.int .i64 N, .string ⟨#[]⟩] 82 (0, 0))) := by show _ = _; rw [hb5.block _ (slt X3.out)]; exact X3.out
 have HBb := hid (btr HBa.out hb5 HBa.out.size);clear G0a G1a X3 HBa hb5 hy2
 by_cases hk : K ≤ 40
 case neg =>
  have hk' : ¬ (K : Int) ≤ 40 := by omega
  obtain ⟨NM, hNM⟩ : ∃ y : ByteArray, y = ⟨#[]⟩ := ⟨_, rfl⟩
  have hM1 : K ≤ 40 → NM = nameOf s := fun h => absurd h hk
  have hM2 : ¬ K ≤ 40 → NM = ⟨#[]⟩ := fun _ => hNM
  have hNs : NM.size ≤ 40 := by rw [hNM]; decide
  rw [← hNM] at X5;clear hNM
  have hsl := fun w' => rslotSector_any N NM w' (by omega)
  have HRE := hid (HRD.out NM hM1 hM2);clear hM1 hM2 HRD;have HSS := hid (slotS_sec N NM);have HES : Hid (slotE N NM = if slotB N NM = true then 0 else 63) := rfl
  generalize slotS N NM = TT at *
  generalize slotE N NM = EE at *
  have hlt := HSS.out.1
  go_upto_region 11 with (first | refine load_R rfl 82 (.tmp 4) rfl g4 rfl 82 #[.int .i64 N, .string NM] _ X5.out Tryz.underlying82 rfl (szSlot N NM) ?_ | (go_at_call 30; refine (hsl _).mono ?_; rintro e w20 ⟨rfl, hb20⟩) | (refine store_sec rfl (.tmp 8) _ rfl w20.heap.size rfl TT rfl hlt Zs Zs_len (heap_alloc_new _ _) ?_; intro w21 hw21))
  have G0z := hid (wr_keep6 hw21 hb20 G0b.out);have G1z := hid (wr_keep6 hw21 hb20 G1b.out);have Xz := hid (wr_keep6 hw21 hb20 X5.out);have Tz := hid hw21.here;have HBz : Hid (Below w.heap.size w w21) := hw21.below ((btr HBb.out hb20 HBb.out.size).alloc (Nat.le_trans HBb.out.size hb20.size) _) (Nat.le_trans HBb.out.size hb20.size);obtain ⟨g8, hg8⟩ : ∃ y, y = w20.heap.size := ⟨_, rfl⟩;rw [← hg8] at Tz ⊢;have HQ := hid (eq_sec TT s hlt hl);clear hg8 hw21 hb20 hsl
  cases hbv : slotB N NM
  ·have hE : EE = 63 := by rw [HES.out, hbv]; rfl
   subst hE
   have HR : Hid (rdSlot N s = (0, ⟨#[]⟩, 63)) := by show _ = _; rw [HRE.out, hbv]; rfl
   clear hbv
   go_wp2_with (refine store_R rfl 82 (.tmp 2) _ rfl (w.heap.size + 1) _ rfl rfl 82 _ G1z.out (by rw [szL3]; rfl) rfl (by simp [Value.oneCell']) ?_; intro w22 hw22)
   rw [HR.out]
   exact bodyPost_ret (v := .tuple #[.agg #[.int .i64 0, .string ⟨#[]⟩], .int .i64 63]) (results_R Tryz.results76 _ _ (w.heap.size + 1) _ 82 _ _ Tryz.underlying82 rfl (by rw [szL3]; rfl) rfl rfl hw22.here) rfl ⟨rfl, hw22.below HBz.out (by omega)⟩
  ·have hE : EE = 0 := by rw [HES.out, hbv]; rfl
   subst hE
   by_cases hts : TT = s
   ·have HR : Hid (rdSlot N s = (N, NM, 0)) := by show _ = _; rw [HRE.out, if_pos ⟨hbv, hts⟩]
    clear hbv;subst hts
    go_wp2_with (first | refine load_sec_g (.tmp 8) rfl g8 rfl TT hlt Tz.out rfl ?_ | refine load_sec_g (.tmp 1) rfl w.heap.size rfl TT hlt G0z.out rfl ?_ | refine neq_R rfl 36 (.tmp 40) (.tmp 41) rfl (SA TT) (SA TT) true rfl rfl (fun w' => by rw [HQ.out, decide_eq_true rfl]) guard_sec ?_ | refine load_R rfl 82 (.tmp 4) rfl g4 rfl 82 #[.int .i64 N, .string NM] _ Xz.out Tryz.underlying82 rfl (szSlot N NM) ?_ | (refine store_R rfl 82 (.tmp 2) _ rfl (w.heap.size + 1) _ rfl rfl 82 _ G1z.out (by rw [szL3]; rfl) rfl (by simp [Value.oneCell']) ?_; intro w22 hw22))
    rw [HR.out]
    exact bodyPost_ret (v := .tuple #[.agg #[.int .i64 N, .string NM], .int .i64 0]) (results_R Tryz.results76 _ _ (w.heap.size + 1) _ 82 _ _ Tryz.underlying82 rfl (by rw [szL3]; rfl) rfl rfl hw22.here) rfl ⟨rfl, hw22.below HBz.out (by omega)⟩
   ·have HR : Hid (rdSlot N s = (0, ⟨#[]⟩, 63)) := by show _ = _; rw [HRE.out, if_neg (fun h => hts h.2)]
    have HTS := hid hts;clear hbv hts
    go_wp2_with (first | refine load_sec_g (.tmp 8) rfl g8 rfl TT hlt Tz.out rfl ?_ | refine load_sec_g (.tmp 1) rfl w.heap.size rfl s hl G0z.out rfl ?_ | refine neq_R rfl 36 (.tmp 40) (.tmp 41) rfl (SA TT) (SA s) false rfl rfl (fun w' => by rw [HQ.out, decide_eq_false HTS.out]) guard_sec ?_ | (refine store_R rfl 82 (.tmp 2) _ rfl (w.heap.size + 1) _ rfl rfl 82 _ G1z.out (by rw [szL3]; rfl) rfl (by simp [Value.oneCell']) ?_; intro w22 hw22))
    rw [HR.out]
    exact bodyPost_ret (v := .tuple #[.agg #[.int .i64 0, .string ⟨#[]⟩], .int .i64 63]) (results_R Tryz.results76 _ _ (w.heap.size + 1) _ 82 _ _ Tryz.underlying82 rfl (by rw [szL3]; rfl) rfl rfl hw22.here) rfl ⟨rfl, hw22.below HBz.out (by omega)⟩
 have hk' : (K : Int) ≤ 40 := by omega
 go_upto_region 5 with fail
 go_wp2_with fail
 go_loopw [6, 7] (fun v i wr => ∃ j : Nat, j ≤ K ∧ i = .int .i64 j ∧ Hid (Below w5.heap.size w5 wr ∧ BOw wr w5.heap.size v ((s.drop 5).take j))) (fun _ i _ => K - (intOf i).toNat)
 case atStart => exact ⟨0, by omega, rfl, Below.refl _ _, ⟨rfl, .inl ⟨rfl, rfl⟩⟩⟩
 case round =>
  obtain ⟨j, hj, rfl, HR⟩ := hrel;obtain ⟨Wx, hWx⟩ : ∃ y, y = wr := ⟨_, rfl⟩;subst hWx
  by_cases hjk : j < K
  ·have G0x : Wx.heap[w.heap.size]? = some (.cells (SA s) 36 (0, 0)) := by rw [HR.out.1.block _ (slt G0b.out)]; exact G0b.out
   have p1 := sec_cell G0x (5 + j) (by omega);obtain ⟨y, hy⟩ : ∃ y, y = s.getD (5 + j) 0 := ⟨_, rfl⟩;rw [← hy] at p1
   have HT : Hid ((s.drop 5).take (j + 1) = (s.drop 5).take j ++ [y]) := by show _ = _; rw [List.take_add_one, HBY.out j (by omega), hy]; rfl
   have HLN : Hid (((s.drop 5).take j).length ≤ 1000000000000) := by show _ ≤ _; rw [List.length_take]; omega
   have hi2 : (5 : Int) + (j : Int) < 128 := by omega
   have hi3 : (0 : Int) ≤ 5 + (j : Int) := by omega
   have et : ((5 : Int) + (j : Int)).toNat = 5 + j := by omega
   clear hy G0x
   go_wp2_with (first | (at_builtin; go_must (refine wp_app8 rfl _ _ rfl w5.heap.size Wx.heap.size 1 _ ((s.drop 5).take j) y rfl rfl (bow_keep HR.out.2 ((Below.refl _ _).alloc (Nat.le_refl _) _)) (by rw [cell_of_row _ _ _ _ _ _ (heap_alloc_new _ _)]; rfl) HLN.out (by have := HR.out.1.size; simp; omega) ?_; intro v' w' h1 h2)) | go_in)
   refine ⟨⟨j + 1, by omega, by go_num, ?_, by rw [HT.out]; exact h1⟩, by simp [intOf]; omega⟩
   exact (HR.out.1.alloc HR.out.1.size _).trans ⟨h2.os, h2.tape, h2.output, h2.size, fun k hk2 => h2.block k (by have := HR.out.1.size; simp; omega) (fun e => by have := (bow_ge HR.out.2 e.symm).1; omega)⟩
  ·obtain rfl : j = K := by omega
   have hcv := conv_bow HR.out.2
   have G0x : Hid (Wx.heap[w.heap.size]? = some (.cells (SA s) 36 (0, 0))) := by show _ = _; rw [HR.out.1.block _ (slt G0b.out)]; exact G0b.out
   have G1x : Hid (Wx.heap[w.heap.size + 1]? = some (.cells #[.int .i64 0, .string ⟨#[]⟩] 82 (0, 0))) := by show _ = _; rw [HR.out.1.block _ (slt G1b.out)]; exact G1b.out
   have Xx : Hid (Wx.heap[g4]? = some (.cells #[.int .i64 N, .string ⟨#[]⟩] 82 (0, 0))) := by show _ = _; rw [HR.out.1.block _ (slt X5.out)]; exact X5.out
   have HBx := hid (btr HBb.out HR.out.1 HBb.out.size);obtain ⟨NM, hNM⟩ : ∃ y : ByteArray, y = strOf ((s.drop 5).take j) := ⟨_, rfl⟩
   have hM1 : j ≤ 40 → NM = nameOf s := fun h => by rw [HNM.out h]; exact hNM
   have hM2 : ¬ j ≤ 40 → NM = ⟨#[]⟩ := fun h => absurd hk h
   have hNs : NM.size ≤ 40 := by rw [hNM]; simp [strOf, ByteArray.size]; omega
   rw [← hNM] at hcv
   have p1 : Wx.cell? ⟨g4, 1, none⟩ = some (.string ⟨#[]⟩) := by rw [cell_of_row _ _ _ _ _ _ Xx.out]; rfl
   have hfr := frozen_of_row Wx g4 1 _ _ Xx.out
   have Xy : Hid ((Wx.setCell ⟨g4, 1, none⟩ (.string NM)).heap[g4]? = some (.cells #[.int .i64 N, .string NM] 82 (0, 0))) := by show _ = _; rw [heap_setCell_same Wx g4 1 _ 82 _ Xx.out]; rfl
   have G0y : Hid ((Wx.setCell ⟨g4, 1, none⟩ (.string NM)).heap[w.heap.size]? = some (.cells (SA s) 36 (0, 0))) := by show _ = _; rw [heap_setCell_other Wx ⟨g4, 1, none⟩ w.heap.size _ (by show w.heap.size ≠ g4; omega)]; exact G0x.out
   have G1y : Hid ((Wx.setCell ⟨g4, 1, none⟩ (.string NM)).heap[w.heap.size + 1]? = some (.cells #[.int .i64 0, .string ⟨#[]⟩] 82 (0, 0))) := by show _ = _; rw [heap_setCell_other Wx ⟨g4, 1, none⟩ (w.heap.size + 1) _ (by show w.heap.size + 1 ≠ g4; omega)]; exact G1x.out
   have HBy : Hid (Below w.heap.size w (Wx.setCell ⟨g4, 1, none⟩ (.string NM))) := HBx.out.trans ⟨rfl, rfl, rfl, by simp [World.setCell], fun k hk2 => heap_setCell_other Wx ⟨g4, 1, none⟩ k _ (fun e => by have e' : k = g4 := e; omega)⟩;have HM1 := hid hM1;have HM2 := hid hM2;clear hNM HR G0x G1x Xx HBx HNM HBY hM1 hM2
   go_upto_region 10 with fail
   try dsimp only [Act.put]
   generalize Wx.setCell ⟨g4, 1, none⟩ (.string NM) = Wy at *
   clear p1 hfr hcv;have hM1 := HM1.out;have hM2 := HM2.out;clear HM1 HM2
   have hsl := fun w' => rslotSector_any N NM w' (by omega)
   have HRE := hid (HRD.out NM hM1 hM2);clear hM1 hM2 HRD;have HSS := hid (slotS_sec N NM);have HES : Hid (slotE N NM = if slotB N NM = true then 0 else 63) := rfl
   generalize slotS N NM = TT at *
   generalize slotE N NM = EE at *
   have hlt := HSS.out.1
   go_upto_region 11 with (first | refine load_R rfl 82 (.tmp 4) rfl g4 rfl 82 #[.int .i64 N, .string NM] _ Xy.out Tryz.underlying82 rfl (szSlot N NM) ?_ | (go_at_call 30; refine (hsl _).mono ?_; rintro e w20 ⟨rfl, hb20⟩) | (refine store_sec rfl (.tmp 8) _ rfl w20.heap.size rfl TT rfl hlt Zs Zs_len (heap_alloc_new _ _) ?_; intro w21 hw21))
   have G0z := hid (wr_keep6 hw21 hb20 G0y.out);have G1z := hid (wr_keep6 hw21 hb20 G1y.out);have Xz := hid (wr_keep6 hw21 hb20 Xy.out);have Tz := hid hw21.here;have HBz : Hid (Below w.heap.size w w21) := hw21.below ((btr HBy.out hb20 HBy.out.size).alloc (Nat.le_trans HBy.out.size hb20.size) _) (Nat.le_trans HBy.out.size hb20.size);obtain ⟨g8, hg8⟩ : ∃ y, y = w20.heap.size := ⟨_, rfl⟩;rw [← hg8] at Tz ⊢;have HQ := hid (eq_sec TT s hlt hl);clear hg8 hw21 hb20 hsl
   cases hbv : slotB N NM
   ·have hE : EE = 63 := by rw [HES.out, hbv]; rfl
    subst hE
    have HR : Hid (rdSlot N s = (0, ⟨#[]⟩, 63)) := by show _ = _; rw [HRE.out, hbv]; rfl
    clear hbv
    go_wp2_with (refine store_R rfl 82 (.tmp 2) _ rfl (w.heap.size + 1) _ rfl rfl 82 _ G1z.out (by rw [szL3]; rfl) rfl (by simp [Value.oneCell']) ?_; intro w22 hw22)
    rw [HR.out]
    exact bodyPost_ret (v := .tuple #[.agg #[.int .i64 0, .string ⟨#[]⟩], .int .i64 63]) (results_R Tryz.results76 _ _ (w.heap.size + 1) _ 82 _ _ Tryz.underlying82 rfl (by rw [szL3]; rfl) rfl rfl hw22.here) rfl ⟨rfl, hw22.below HBz.out (by omega)⟩
   ·have hE : EE = 0 := by rw [HES.out, hbv]; rfl
    subst hE
    by_cases hts : TT = s
    ·have HR : Hid (rdSlot N s = (N, NM, 0)) := by show _ = _; rw [HRE.out, if_pos ⟨hbv, hts⟩]
     clear hbv;subst hts
     go_wp2_with (first | refine load_sec_g (.tmp 8) rfl g8 rfl TT hlt Tz.out rfl ?_ | refine load_sec_g (.tmp 1) rfl w.heap.size rfl TT hlt G0z.out rfl ?_ | refine neq_R rfl 36 (.tmp 40) (.tmp 41) rfl (SA TT) (SA TT) true rfl rfl (fun w' => by rw [HQ.out, decide_eq_true rfl]) guard_sec ?_ | refine load_R rfl 82 (.tmp 4) rfl g4 rfl 82 #[.int .i64 N, .string NM] _ Xz.out Tryz.underlying82 rfl (szSlot N NM) ?_ | (refine store_R rfl 82 (.tmp 2) _ rfl (w.heap.size + 1) _ rfl rfl 82 _ G1z.out (by rw [szL3]; rfl) rfl (by simp [Value.oneCell']) ?_; intro w22 hw22))
     rw [HR.out]
     exact bodyPost_ret (v := .tuple #[.agg #[.int .i64 N, .string NM], .int .i64 0]) (results_R Tryz.results76 _ _ (w.heap.size + 1) _ 82 _ _ Tryz.underlying82 rfl (by rw [szL3]; rfl) rfl rfl hw22.here) rfl ⟨rfl, hw22.below HBz.out (by omega)⟩
    ·have HR : Hid (rdSlot N s = (0, ⟨#[]⟩, 63)) := by show _ = _; rw [HRE.out, if_neg (fun h => hts h.2)]
     have HTS := hid hts;clear hbv hts
     go_wp2_with (first | refine load_sec_g (.tmp 8) rfl g8 rfl TT hlt Tz.out rfl ?_ | refine load_sec_g (.tmp 1) rfl w.heap.size rfl s hl G0z.out rfl ?_ | refine neq_R rfl 36 (.tmp 40) (.tmp 41) rfl (SA TT) (SA s) false rfl rfl (fun w' => by rw [HQ.out, decide_eq_false HTS.out]) guard_sec ?_ | (refine store_R rfl 82 (.tmp 2) _ rfl (w.heap.size + 1) _ rfl rfl 82 _ G1z.out (by rw [szL3]; rfl) rfl (by simp [Value.oneCell']) ?_; intro w22 hw22))
     rw [HR.out]
     exact bodyPost_ret (v := .tuple #[.agg #[.int .i64 0, .string ⟨#[]⟩], .int .i64 63]) (results_R Tryz.results76 _ _ (w.heap.size + 1) _ 82 _ _ Tryz.underlying82 rfl (by rw [szL3]; rfl) rfl rfl hw22.here) rfl ⟨rfl, hw22.below HBz.out (by omega)⟩

end Go.Proofs.YtpmignilhoihnabGreat

namespace Go.Proofs.YtpmignilhoihnabGreat
open Go.RowKit Go.Shelf

structure BlkOk (c : SC) (z : List Int) : Prop where
 o16 : z.getD 16 0 ≠ 0 → 0 ≤ z.getD 16 0 ∧ z.getD 16 0 < c.N
 o17 : z.getD 17 0 ≠ 0 → 0 ≤ z.getD 17 0 ∧ z.getD 17 0 < c.N
 o18 : z.getD 17 0 ≠ 0 → ∀ a, a < 32 → (ptrsTo (secI c.im (z.getD 17 0)) 32).getD a 0 ≠ 0 → 0 ≤ (ptrsTo (secI c.im (z.getD 17 0)) 32).getD a 0 ∧ (ptrsTo (secI c.im (z.getD 17 0)) 32).getD a 0 < c.N
theorem img_sec {c : SC} {sn : Int → Bool} {w : World} (h : IsS w c sn) {m : Nat} (hm : m < c.N) : ∃ b o, (∀ W', Chg w W' No → W'.cell? ⟨c.p, 2, none⟩ = some (.slice (some ⟨b, o, none⟩) c.N c.ic)) ∧ ∀ W', Chg w W' No → W'.rangeAt b (o + m * 128) ((secI c.im (m : Int)).map (Value.int .u8)) := by
 obtain ⟨b, o, hia, _, _⟩ : ∃ b o, c.ia = some ⟨b, o, none⟩ ∧ b < w.heap.size ∧ ∀ (j : Nat) s, c.im[j]? = some s → w.rangeAt b (o + j * 128) (s.map (Value.int .u8)) := by
  rcases h.ci.2 with e | e
  ·have h1 := h.il; have h2 := h.n1; rw [e] at h1; simp at h1; omega
  ·exact e
 refine ⟨b, o, fun W' hW => by rw [← hia]; exact (h.call hW).c2, fun W' hW => ?_⟩
 rcases (h.call hW).ci.2 with e | ⟨b', o', e1, _, e3⟩
 ·have h1 := h.il; have h2 := h.n1; rw [e] at h1; simp at h1; omega
 ·rw [hia] at e1
  cases e1
  exact e3 m _ (getD_at (by rw [h.il]; exact hm))
theorem rptrs_c (s : List Int) (hs : IsSec s) (w : World) : Calls Tryz.prog 29 #[.agg (SA s)] w fun e w' => e = .returned (.agg (NA (ptrsTo s 32))) ∧ Chg w w' No := by
 refine (rreadPointers_any s hs w).mono ?_
 rintro e w' ⟨rfl, hb⟩
 exact ⟨rfl, Chg.of_below hb No⟩
theorem blk_a (im : Img) (z : List Int) {k : Nat} (h : k < 12) : blkP im z k = z.getD (4 + k) 0 := by unfold blkP; rw [if_pos h]
theorem blk_b (im : Img) (z : List Int) {k : Nat} (h : ¬ k < 12) (h2 : k < 44) : blkP im z k = if z.getD 16 0 = 0 then 0 else (ptrsTo (secI im (z.getD 16 0)) 32).getD (k - 12) 0 := by unfold blkP; rw [if_neg h, if_pos h2]
end Go.Proofs.YtpmignilhoihnabGreat

namespace Go.Proofs.YtpmignilhoihnabGreat
open Go.RowKit Go.Shelf

set_option maxHeartbeats 1000000 in
set_option maxRecDepth 100000 in
theorem block_low {c : SC} {sn : Int → Bool} (z : List Int) (hz : z.length = 18) (hB : BlkOk c z) (k : Nat) (hk : k < 44) (w : World) (h : IsS w c sn) :
  Calls Tryz.prog 47 #[.pointer (some ⟨c.p, 0, none⟩), .agg (NA z), .int .i64 k] w fun e w' => e = .returned (.int .i64 (blkP c.im z k)) ∧ Chg w w' No := by
 have hA := Chg.alloc w (.cells (NA z) 39) No;have hg := heap_alloc_new w (.cells (NA z) 39)
 have k0 : (0 : Int) ≤ (k : Int) := by omega
 have k44 : ¬ (44 : Int) ≤ (k : Int) := by omega
 have k44' : (k : Int) < 44 := by omega
 by_cases e1 : k < 12
 ·have hq := row_cell hg (4 + k) (by omega)
  have k1 : (k : Int) < 12 := by omega
  rw [blk_a c.im z e1];have HA := hid hA
  generalize z.getD (4 + k) 0 = y at *
  clear hA hg hB h
  go_enter Tryz.func47, Tryz.ntmps47
  go_wp2_with fail
  go_ret
  exact ⟨rfl, HA.out⟩
 ·have k1 : ¬ (k : Int) < 12 := by omega
  have hq := row_cell hg 16 (by omega);rw [blk_b c.im z e1 hk];have HS := hid (h.call hA);have o16 := hB.o16;have HA := hid hA
  generalize z.getD 16 0 = y at *
  clear hA hg hB h
  by_cases ey : y = 0
  ·subst ey
   rw [if_pos rfl]
   go_enter Tryz.func47, Tryz.ntmps47
   go_wp2_with fail
   go_ret
   exact ⟨rfl, HA.out⟩
  ·have hyb : (y == 0) = false := by simpa using ey
   rw [if_neg ey];obtain ⟨m, rfl, hm⟩ : ∃ m : Nat, y = (m : Int) ∧ m < c.N := ⟨y.toNat, by have := o16 ey; omega, by have := o16 ey; omega⟩;obtain ⟨b, o, hc2, hr⟩ := img_sec HS.out hm;have c2 := hc2 _ (Chg.refl _ _);have HR := hr _ (Chg.refl _ _);obtain ⟨sk, hsk⟩ : ∃ x, x = secI c.im (m : Int) := ⟨_, rfl⟩;have HSk : Hid (IsSec sk) := hid (by rw [hsk]; exact HS.out.ci.secI _);rw [← hsk] at HR ⊢;have hRP := rptrs_c sk HSk.out (w.alloc (.cells (NA z) 39))
   have m0 : (0 : Int) ≤ (m : Int) := by omega
   have m1 : (m : Int) < (c.N : Int) := by omega
   have hIx := fun W' => index_ptr (ptrsTo sk 32) (k - 12) (ptrsTo_len _ _) (by omega) W'
   have hki : ((k - 12 : Nat) : Int) = (k : Int) - 12 := by omega
   rw [hki] at hIx;clear hsk hc2 hr o16 HS
   go_enter Tryz.func47, Tryz.ntmps47
   go_wp2_with (first
    | (refine load_mid 36 _ rfl b (o + m * 128) rfl _ _ HR Tryz.underlying36 rfl (by rw [sz26, List.length_map, HSk.out.1]) (by rfl) ?_)
    | (go_at_call 29; go_must (refine hRP.mono ?_; rintro e w2 ⟨rfl, hc2⟩))
    | fail)
   go_ret
   exact ⟨rfl, HA.out.trans hc2 (fun _ _ e => e) (fun _ _ e => e)⟩
end Go.Proofs.YtpmignilhoihnabGreat

namespace Go.Proofs.YtpmignilhoihnabGreat
open Go.RowKit Go.Shelf

theorem blk_c (im : Img) (z : List Int) {k : Nat} (h : 44 ≤ k) : blkP im z k = if z.getD 17 0 = 0 then 0 else if (ptrsTo (secI im (z.getD 17 0)) 32).getD ((k - 44) / 32) 0 = 0 then 0 else (ptrsTo (secI im ((ptrsTo (secI im (z.getD 17 0)) 32).getD ((k - 44) / 32) 0)) 32).getD ((k - 44) % 32) 0 := by
 unfold blkP;rw [if_neg (by omega), if_neg (by omega)]
set_option maxHeartbeats 1000000 in
set_option maxRecDepth 100000 in
theorem block_high {c : SC} {sn : Int → Bool} (z : List Int) (hz : z.length = 18) (hB : BlkOk c z) (k : Nat) (hk : 44 ≤ k) (hk2 : k < 1068) (w : World) (h : IsS w c sn) :
  Calls Tryz.prog 47 #[.pointer (some ⟨c.p, 0, none⟩), .agg (NA z), .int .i64 k] w fun e w' => e = .returned (.int .i64 (blkP c.im z k)) ∧ Chg w w' No := by
 have hA := Chg.alloc w (.cells (NA z) 39) No;have hg := heap_alloc_new w (.cells (NA z) 39)
 have k0 : (0 : Int) ≤ (k : Int) := by omega
 have k44 : (44 : Int) ≤ (k : Int) := by omega
 have k44' : ¬ (k : Int) < 44 := by omega
 have k1 : ¬ (k : Int) < 12 := by omega
 have k9 : (k : Int) < 1068 := by omega
 rw [blk_c c.im z hk];obtain ⟨a, ha⟩ : ∃ x, x = (k - 44) / 32 := ⟨_, rfl⟩;obtain ⟨j, hj⟩ : ∃ x, x = (k - 44) % 32 := ⟨_, rfl⟩
 have a1 : a < 32 := by omega
 have j1 : j < 32 := by omega
 have hdv : ((k : Int) - 44).tdiv 32 = (a : Int) := by rw [Int.tdiv_eq_ediv_of_nonneg (by omega)]; omega
 have hmd : ((k : Int) - 44).tmod 32 = (j : Int) := by rw [Int.tmod_eq_emod_of_nonneg (by omega)]; omega
 rw [← ha, ← hj];have hq16 := row_cell hg 16 (by omega);have hq := row_cell hg 17 (by omega);have HS := hid (h.call hA);have o17 := hB.o17;have o18 := hB.o18;have HGk : Hid (∀ W', Chg (w.alloc (.cells (NA z) 39)) W' No → W'.cell? ⟨w.heap.size, 17, none⟩ = some (.int .i64 (z.getD 17 0))) := hid (fun W' hW => row_cell (hW.keep hg (fun e => e)) 17 (by omega));have HA := hid hA
 generalize z.getD 16 0 = y16 at *
 generalize z.getD 17 0 = y at *
 clear hA hg hB h ha hj
 by_cases ey : y = 0
 ·subst ey
  rw [if_pos rfl]
  go_enter Tryz.func47, Tryz.ntmps47
  go_wp2_with fail
  go_ret
  exact ⟨rfl, HA.out⟩
 ·have hyb : (y == 0) = false := by simpa using ey
  rw [if_neg ey];obtain ⟨m, rfl, hm⟩ : ∃ m : Nat, y = (m : Int) ∧ m < c.N := ⟨y.toNat, by have := o17 ey; omega, by have := o17 ey; omega⟩;obtain ⟨b, o, hc2, hr⟩ := img_sec HS.out hm;obtain ⟨sk, hsk⟩ : ∃ x, x = secI c.im (m : Int) := ⟨_, rfl⟩;have HSk : Hid (IsSec sk) := hid (by rw [hsk]; exact HS.out.ci.secI _);have o18 := o18 ey a a1;rw [← hsk] at hr o18 ⊢
  have m0 : (0 : Int) ≤ (m : Int) := by omega
  have m1 : (m : Int) < (c.N : Int) := by omega
  have hIx := fun W' => index_ptr (ptrsTo sk 32) a (ptrsTo_len _ _) a1 W'
  obtain ⟨x, hx⟩ : ∃ y, y = (ptrsTo sk 32).getD a 0 := ⟨_, rfl⟩;rw [← hx] at o18 hIx ⊢;clear hx;obtain ⟨R, hR⟩ : ∃ r, r = (if x = 0 then 0 else (ptrsTo (secI c.im x) 32).getD j 0) := ⟨_, rfl⟩;rw [← hR];have HRes := hid hR;clear hR
  have wk : IntKind.i64.wrap ((k : Int) - 44) = (k : Int) - 44 := by rw [IntKind.wrap_i64]; omega
  have wa : IntKind.i64.wrap (a : Int) = (a : Int) := by rw [IntKind.wrap_i64]; omega
  go_enter Tryz.func47, Tryz.ntmps47
  go_upto_region 9 with fail
  obtain ⟨w1, hw1⟩ : ∃ x, x = w.alloc (.cells (NA z) 39) := ⟨_, rfl⟩;obtain ⟨g, hgg⟩ : ∃ x, x = w.heap.size := ⟨_, rfl⟩;rw [← hw1] at hc2 hr HGk HS HA ⊢;rw [← hgg] at HGk ⊢;have HC2 := hid hc2;have HRg := hid hr;have HC7 := HGk;clear hc2 hr hsk hq hq16 hw1 hgg o17 HGk;have hcut : True := trivial;refine wp_region_noPanic ?_;refine wp_region_held_drew (S := fun w' => Chg w1 w' No) (by kernel_rfl) (Chg.refl _ _).drew (fun hH => ?_);refine tV 0 27 (.pointer (some ⟨c.p, 0, none⟩)) rfl (by kernel_rfl) rfl (by rfl) hH (fun _ hw' => rfl) ?_;simp only [sS];refine tV 1 28 (.pointer (some ⟨c.p, 0, none⟩)) rfl (by kernel_rfl) rfl (by rfl) hH (fun _ hw' => by go_simp) ?_;simp only [sS];refine tV 2 29 (.pointer (some ⟨c.p, 2, none⟩)) rfl (by kernel_rfl) rfl (by rfl) hH (fun _ hw' => by go_simp) ?_;simp only [sS];refine tV 3 30 (.slice (some ⟨b, o, none⟩) c.N c.ic) rfl (by kernel_rfl) rfl (by rfl) hH (fun _ hw' => by have hc := HC2.out _ hw'; go_simp) ?_;simp only [sS];refine tV 4 31 (.pointer (some ⟨g, 17, none⟩)) rfl (by kernel_rfl) rfl (by rfl) hH (fun _ hw' => by go_simp) ?_;simp only [sS];refine tV 5 32 (.int .i64 (m : Int)) rfl (by kernel_rfl) rfl (by rfl) hH (fun _ hw' => by have hc := HC7.out _ hw'; go_simp) ?_;simp only [sS];refine tV 6 33 (.pointer (some ⟨b, o + m * 128, none⟩)) rfl (by kernel_rfl) rfl (by rfl) hH (fun _ hw' => by go_simp) ?_;simp only [sS];refine takeMid 7 34 (.tmp 33) b (o + m * 128) sk HSk.out.1 rfl (by kernel_rfl) (by kernel_rfl) (by kernel_rfl) rfl rfl rfl (by rfl) (fun _ _ _ h => h) hH (fun _ hw' => HRg.out _ hw') ?_;simp only [sS];refine tV 9 36 (.int .i64 (k : Int)) rfl (by kernel_rfl) rfl (by rfl) hH (fun _ hw' => rfl) ?_;simp only [sS]
  refine tV 10 37 (.int .i64 ((k : Int) - 44)) rfl (by kernel_rfl) rfl (by rfl) hH (fun _ hw' => by go_simp <;> first | exact wk | exact wa) ?_
  simp only [sS]
  refine tV 11 38 (.int .i64 (a : Int)) rfl (by kernel_rfl) rfl (by rfl) hH (fun _ hw' => by go_simp <;> first | exact wk | exact wa) ?_
  simp only [sS];refine step1 8 (by kernel_rfl) ?_;refine stCall 8 35 29 #[.agg (SA sk)] _ rfl rfl (by rfl) (by go_simp) (rptrs_c sk HSk.out _) ?_
  rintro e w2 ⟨rfl, hc2⟩
  have hH2 : Chg w1 w2 No := hH.trans hc2 (fun _ _ e => e) (fun _ _ e => e);refine ⟨_, rfl, hH2, ?_⟩;simp only [sS];refine tV 12 39 (.int .i64 x) rfl (by kernel_rfl) rfl (by rfl) hH2 (fun _ hw' => by go_simp) ?_;simp only [sS];refine tV 13 7 (.int .i64 x) rfl (by kernel_rfl) rfl (by rfl) hH2 (fun _ hw' => rfl) ?_;simp only [sS];refine wpAnyH_done (by kernel_rfl) ?_ _;refine NoPanic.normal ?_;have HH2 := hid hH2;clear hH hH2 hc2 hcut hIx
  by_cases ex : x = 0
  ·have e0 : R = 0 := by rw [HRes.out, if_pos ex]
   clear HRes;subst ex;subst e0
   go_wp2_with fail
   go_ret
   exact ⟨rfl, HA.out.trans HH2.out (fun _ _ e => e) (fun _ _ e => e)⟩
  ·have hxb : (x == 0) = false := by simpa using ex
   obtain ⟨m2, rfl, hm2⟩ : ∃ m : Nat, x = (m : Int) ∧ m < c.N := ⟨x.toNat, by have := o18 ex; omega, by have := o18 ex; omega⟩;obtain ⟨b, o, hd2, hr2⟩ := img_sec (HS.out.call HH2.out) hm2;have d2 := hd2 _ (Chg.refl _ _);have HR2 := hr2 _ (Chg.refl _ _);obtain ⟨sl, hsl⟩ : ∃ x, x = secI c.im (m2 : Int) := ⟨_, rfl⟩;have HSl : Hid (IsSec sl) := hid (by rw [hsl]; exact HS.out.ci.secI _);rw [← hsl] at HR2
   have e0 : R = (ptrsTo sl 32).getD j 0 := by rw [HRes.out, if_neg ex, hsl]
   clear HRes;subst e0;have hRP := rptrs_c sl HSl.out w2
   have n0 : (0 : Int) ≤ (m2 : Int) := by omega
   have n1 : (m2 : Int) < (c.N : Int) := by omega
   have hIy := fun W' => index_ptr (ptrsTo sl 32) j (ptrsTo_len _ _) j1 W'
   clear hsl hd2 hr2 o18
   go_wp2_with (first
     | (refine load_mid 36 _ rfl b (o + m2 * 128) rfl _ _ HR2 Tryz.underlying36 rfl (by rw [sz26, List.length_map, HSl.out.1]) (by rfl) ?_)
     | (go_at_call 29; go_must (refine hRP.mono ?_; rintro e w3 ⟨rfl, hc3⟩))
     | fail)
   go_ret
   exact ⟨rfl, (HA.out.trans HH2.out (c := No) (fun _ _ e => e) (fun _ _ e => e)).trans hc3 (fun _ _ e => e) (fun _ _ e => e)⟩
end Go.Proofs.YtpmignilhoihnabGreat

namespace Go.Proofs.YtpmignilhoihnabGreat
open Go.RowKit

theorem say_small {s : List Int} {P L : Nat} (h7 : L ≤ 7) : sayV s P L = numAt s P L := by
 unfold sayV;rw [if_neg (fun k => by have := k.1; omega)]
 simp
theorem pls_small : ∀ m, m < 18 → m ≠ 3 → ∃ P L : Nat, pls.getD m (0, 0) = ((P : Int), (L : Int)) ∧ P + L ≤ 128 ∧ 1 ≤ L ∧ L ≤ 7 := by
 intro m hm h3
 refine ⟨(pls.getD m (0, 0)).1.toNat, (pls.getD m (0, 0)).2.toNat, ?_⟩
 revert m
 decide
theorem same_at {s : List Int} (hs : IsSec s) {m : Nat} (hm : m < 18) (h3 : m ≠ 3) : gv s m = pv s m := by
 obtain ⟨P, L, e, h1, h2, h4⟩ := pls_small m hm h3;unfold gv pv;rw [e]
 show getV s (P : Int) (L : Int) = sayV s (P : Int) (L : Int)
 rw [getV_small hs h1 h2 h4, say_small h4]
theorem same_3 {s : List Int} (hs : IsSec s) : gv s 3 = pv s 3 ∨ (¬ (0 ≤ gv s 3 ∧ gv s 3 ≤ 1099511627776) ∧ ¬ (0 ≤ pv s 3 ∧ pv s 3 ≤ 1099511627776)) := by
 have eg : gv s 3 = if numAt s 8 8 ≤ top then numAt s 8 8 else -1 := by
  show getV s 8 8 = _
  unfold getV getE getN;rw [if_pos (show inB 8 8 = true by decide)]
  by_cases h : numAt s 8 8 ≤ top
  ·have h' : numAt s (8 : Int).toNat (8 : Int).toNat ≤ top := h
   rw [if_pos h', if_pos rfl, if_pos ⟨by decide, h'⟩, if_pos h]
   rfl
  ·have h' : ¬ numAt s (8 : Int).toNat (8 : Int).toNat ≤ top := h
   rw [if_neg h', if_neg (by decide), if_neg h]
 have ep : pv s 3 = if s.getD 15 0 ≠ 0 then -1 else numAt s 8 8 := by
  show sayV s 8 8 = _
  unfold sayV
  by_cases h : s.getD 15 0 ≠ 0
  ·rw [if_pos h, if_pos ⟨rfl, h⟩]
  ·rw [if_neg h, if_neg (fun k => h k.2)]
   rfl
 have hb7 := numAt_bd hs 8 7;have e8 : numAt s 8 8 = numAt s 8 7 + s.getD 15 0 * 256 ^ 7 := rfl
 have e7 : (256 : Int) ^ 7 = 72057594037927936 := by decide
 have h15 := hs.at 15;rw [e7] at e8 hb7
 by_cases h : s.getD 15 0 = 0
 ·left
  have ht : numAt s 8 8 ≤ top := by rw [top_eq, e8, h]; omega
  rw [eg, ep, if_pos ht, if_neg (show ¬ s.getD 15 0 ≠ 0 from fun k => k h)]
 ·right
  refine ⟨?_, ?_⟩
  ·rw [eg]
   split
   ·omega
   ·omega
  ·rw [ep, if_pos h]
   omega
theorem get_map18 (f : Nat → Int) {m : Nat} (hm : m < 18) : ((List.range 18).map f).getD m 0 = f m := by
 rw [List.getD_eq_getElem?_getD, List.getElem?_map, List.getElem?_range hm]
 rfl
theorem zTo_at (s : List Int) {m : Nat} (hm : m < 18) : (zTo s 18).getD m 0 = gv s m := by
 unfold zTo;rw [get_map18 _ hm, if_pos hm]
theorem yA_at (s : List Int) {m : Nat} (hm : m < 18) : (yA s).getD m 0 = pv s m := by
 unfold yA yTo;rw [get_map18 _ hm, if_pos (by omega)]
theorem yA_len (s : List Int) : (yA s).length = 18 := yTo_len s 12
theorem inoB_far {z : List Int} (h : ¬ (0 ≤ z.getD 3 0 ∧ z.getD 3 0 ≤ 1099511627776)) : inoB z = false := by
 unfold inoB
 split
 ·apply decide_eq_false
  intro e
  rw [e] at h
  exact h (by decide)
 ·rw [allB_false (m := 3) (by decide) h]
  rfl
theorem rd_same {s : List Int} (hs : IsSec s) : rdIno (yA s) s = rdIno (zTo s 18) s := by
 rcases same_3 hs with h | ⟨h1, h2⟩
 ·have e : yA s = zTo s 18 := by
   apply List.ext_getElem (by rw [yA_len, zTo_len])
   intro i k1 k2
   rw [yA_len] at k1;have a1 := yA_at s k1;have a2 := zTo_at s k1;rw [List.getD_eq_getElem?_getD, List.getElem?_eq_getElem (by rw [yA_len]; exact k1)] at a1;rw [List.getD_eq_getElem?_getD, List.getElem?_eq_getElem k2] at a2
   have a3 : gv s i = pv s i := by
    by_cases c : i = 3
    ·rw [c]; exact h
    ·exact same_at hs k1 c
   simp only [Option.getD_some] at a1 a2
   rw [a1, a2, a3]
  rw [e]
 ·have f1 : inoB (zTo s 18) = false := inoB_far (by rw [zTo_at s (by decide)]; exact h1)
  have f2 : inoB (yA s) = false := inoB_far (by rw [yA_at s (by decide)]; exact h2);unfold rdIno;rw [f1, f2]
  simp

end Go.Proofs.YtpmignilhoihnabGreat

namespace Go.Proofs.YtpmignilhoihnabGreat
open Go.RowKit Go.Shelf

theorem infoSlt : ∃ i, Tryz.prog.info? 82 = some i ∧ i.zero = some (.agg #[.int .i64 0, .string ⟨#[]⟩]) ∧ i.size = 2 ∧ i.bytes = 24 := by
 have h : (Tryz.prog.info? 82).map (fun i => (i.zero, i.size, i.bytes)) = some (some (.agg #[.int .i64 0, .string ⟨#[]⟩]), 2, 24) := by kernel_rfl
 cases hq : Tryz.prog.info? 82 with
 | none => rw [hq] at h; cases h
 | some i =>
  rw [hq] at h
  simp at h
  exact ⟨i, rfl, h.1, h.2.1, h.2.2⟩
def cellsSl (l : List (Int × ByteArray)) : List Value := l.flatMap fun y => [.int .i64 y.1, .string y.2]
theorem cellsSl_append (l m : List (Int × ByteArray)) : cellsSl (l ++ m) = cellsSl l ++ cellsSl m := by simp [cellsSl]
theorem cellsSl_get (l : List (Int × ByteArray)) : ∀ k : Nat, (cellsSl l)[2 * k]? = l[k]?.map (fun y => Value.int .i64 y.1) ∧ (cellsSl l)[2 * k + 1]? = l[k]?.map (fun y => Value.string y.2) := by
 induction l with
 | nil => intro k; simp [cellsSl]
 | cons x l ih =>
  intro k
  have e : cellsSl (x :: l) = .int .i64 x.1 :: .string x.2 :: cellsSl l := rfl
  cases k with
  | zero => simp [e]
  | succ k =>
   have := ih k;rw [e, show 2 * (k + 1) = 2 * k + 1 + 1 by omega, show 2 * k + 1 + 1 + 1 = (2 * k + 1) + 1 + 1 by omega]
   simp only [List.getElem?_cons_succ]
   exact this
def SlOwn (w : World) (B : Nat) (v : Value) (l : List (Int × ByteArray)) : Prop := w.ownsRow B 82 2 v l.length (cellsSl l)
theorem SlOwn.blk {w : World} {B : Nat} {v : Value} {l : List (Int × ByteArray)} (h : SlOwn w B v l) {k : Nat} (e : v.ownBlock = some k) : B ≤ k ∧ ∃ A, w.heap[k]? = some (.cells A 82 (0, 0)) := by
 rcases h.2 with ⟨rfl, _⟩ | ⟨g, cap, cur, rfl, hb, hg, _⟩
 ·cases e
 ·have : g = k := by simpa [Value.ownBlock] using e
  subst this
  exact ⟨hb, cur, hg⟩
theorem SlOwn.keep {w w' : World} {B : Nat} {v : Value} {l : List (Int × ByteArray)} {ks : Nat → Prop} (h : SlOwn w B v l) (hc : Chg w w' ks) (hn : ∀ k, v.ownBlock = some k → ¬ ks k) : SlOwn w' B v l := by
 refine ⟨h.1, ?_⟩
 rcases h.2 with k | ⟨g, cap, cur, rfl, hb, hg, r⟩
 ·exact .inl k
 ·exact .inr ⟨g, cap, cur, rfl, hb, hc.keep hg (hn g rfl), r⟩
def SlAt (w : World) (a : Option Addr) (l : List (Int × ByteArray)) : Prop := l = [] ∨ ∃ g, a = some ⟨g, 0, none⟩ ∧ (∃ A, w.heap[g]? = some (.cells A 82 (0, 0))) ∧ ∀ (k : Nat) x, l[k]? = some x → w.cell? ⟨g, k * 2, none⟩ = some (.int .i64 x.1) ∧ w.cell? ⟨g, k * 2 + 1, none⟩ = some (.string x.2)
theorem SlAt.keep {w w' : World} {a : Option Addr} {l : List (Int × ByteArray)} {ks : Nat → Prop} (h : SlAt w a l) (hc : Chg w w' ks) (hn : ∀ k A, w.heap[k]? = some (.cells A 82 (0, 0)) → ¬ ks k) : SlAt w' a l := by
 rcases h with h | ⟨g, rfl, ⟨A, hg⟩, h⟩
 ·exact .inl h
 ·exact .inr ⟨g, rfl, ⟨A, hc.keep hg (hn g A hg)⟩, fun k x hk => ⟨cell_keep (h k x hk).1 hc (slt hg) (hn g A hg), cell_keep (h k x hk).2 hc (slt hg) (hn g A hg)⟩⟩
theorem slAt_of {w : World} {B : Nat} {v : Value} {l : List (Int × ByteArray)} (h : SlOwn w B v l) : ∃ a c, v = .slice a l.length c ∧ SlAt w a l := by
 unfold SlOwn at h;obtain ⟨a, c, rfl⟩ := row_shapeP h;refine ⟨a, c, rfl, ?_⟩
 rcases Nat.eq_zero_or_pos l.length with h0 | h0
 ·exact .inl (List.eq_nil_of_length_eq_zero h0)
 ·rcases h.2 with ⟨e, _⟩ | ⟨g, cap, cur, e, hb, hg, r⟩
  ·injection e; omega
  ·cases e
   refine .inr ⟨g, rfl, ⟨cur, hg⟩, fun k x hk => ?_⟩
   have hadd : ∀ k, (⟨g, 0, none⟩ : Addr).add k = ⟨g, k, none⟩ := fun k => by unfold Addr.add; split <;> simp_all
   have c0 := World.ownsRow.cells h (g := g) rfl (2 * k) (.int .i64 x.1) (by rw [(cellsSl_get l k).1, hk]; rfl);have c1 := World.ownsRow.cells h (g := g) rfl (2 * k + 1) (.string x.2) (by rw [(cellsSl_get l k).2, hk]; rfl);rw [hadd] at c0 c1;rw [Nat.mul_comm k 2]
   exact ⟨c0, c1⟩
section
variable {ops : Array Oper} {rest : List Oper} {o : Oper} {a : Act} {Q : Exit → Act → World → Prop} {w : World}
theorem wp_appSl (hg : o.guard = none) (s x : Operand) (hop : o.op = .call { callee := .builtin .append, args := #[s, x], argTypes := #[100, 100] }) (B g c : Nat) (v : Value) (l : List (Int × ByteArray)) (y : Int × ByteArray) (hs : a.eval s = v) (hx : a.eval x = .slice (some ⟨g, 0, none⟩) 1 c)
  (hown : SlOwn w B v l) (hat : w.cell? ⟨g, 0, none⟩ = some (.int .i64 y.1)) (hat1 : w.cell? ⟨g, 1, none⟩ = some (.string y.2)) (hl : l.length ≤ 1000000) (hB : B ≤ w.heap.size)
  (hK : ∀ v' w', SlOwn w' B v' (l ++ [y]) → Chg w w' (fun k => v.ownBlock = some k) → wpList Tryz.prog ops Q rest (a.put o.dst v') w') : wpList Tryz.prog ops Q (o :: rest) a w := by
 obtain ⟨i, hi, hz, hsz, hby⟩ := infoSlt;refine wpList_append_own_at w hg s x 100 hop B 82 i _ 2 24 Tryz.underlying100 hi hz hsz hby rfl (by decide) v l.length (cellsSl l) hs hown ⟨g, 0, none⟩ 1 c [.int .i64 y.1, .string y.2] hx rfl (fun j u hj => ?_) (by simp [Value.oneCell']) (by unfold maxLen; omega) (by omega) hB ?_
 ·match j, hj with
  | 0, hj => simp at hj; subst hj; exact hat
  | 1, hj => simp at hj; subst hj; exact hat1
  | j + 2, hj => simp at hj
 ·intro v' w' h1 h2 _ _
  refine hK v' w' ?_ ((Chg.grown h2).mono fun j _ e => e.symm);unfold SlOwn;rw [cellsSl_append, List.length_append]
  exact h1
end
theorem rslot_c (s : List Int) (hs : IsSec s) (w : World) : Calls Tryz.prog 76 #[.agg (SA s)] w fun e w' => e = .returned (.tuple #[.agg #[.int .i64 (slotOf s).1, .string (slotOf s).2.1], .int .i64 (slotOf s).2.2]) ∧ Chg w w' No := by
 refine (rreadSlot_any s hs w).mono ?_
 rintro e w' ⟨rfl, hb⟩
 exact ⟨rfl, Chg.of_below hb No⟩
theorem rinode_c (s : List Int) (hs : IsSec s) (w : World) : Calls Tryz.prog 10 #[.agg (SA s)] w fun e w' => e = .returned (.tuple #[.agg (NA (rdIno (zTo s 18) s).1), .int .i64 (rdIno (zTo s 18) s).2]) ∧ Chg w w' No := by
 refine (rreadInode_any s hs w).mono ?_
 rintro e w' ⟨rfl, hb⟩
 rw [rd_same hs]
 exact ⟨rfl, Chg.of_below hb No⟩
end Go.Proofs.YtpmignilhoihnabGreat

namespace Go.Proofs.YtpmignilhoihnabGreat
open Go.RowKit Go.Shelf

theorem blk_any {c : SC} {sn : Int → Bool} (z : List Int) (hz : z.length = 18) (hB : BlkOk c z) (k : Nat) (hk : k < 1068) (w : World) (h : IsS w c sn) :
  Calls Tryz.prog 47 #[.pointer (some ⟨c.p, 0, none⟩), .agg (NA z), .int .i64 k] w fun e w' => e = .returned (.int .i64 (blkP c.im z k)) ∧ Chg w w' No := by
 by_cases e : k < 44
 ·exact block_low z hz hB k e w h
 ·exact block_high z hz hB k (by omega) hk w h
structure InoOk (c : SC) (z : List Int) : Prop where
 len : z.length = 18
 blk : BlkOk c z
 s0 : 0 ≤ z.getD 2 0
 s1 : z.getD 2 0 ≤ 136704
 dat : ∀ k, k < 1068 → blkP c.im z k ≠ 0 → 0 ≤ blkP c.im z k ∧ blkP c.im z k < c.N
def SlPost (im : Img) (L : List Int) (w : World) (e : Ending) (w' : World) : Prop :=
 Chg w w' No ∧ (((∀ x ∈ L, errAt im x = 0) ∧ ∃ v, e = .returned (.tuple #[v, .bool true]) ∧ SlOwn w' w.heap.size v (liveL im L)) ∨ ((∃ x ∈ L, errAt im x ≠ 0) ∧ e = .returned (.tuple #[.slice none 0 0, .bool false])))
structure SW (w0 w : World) (c : SC) (sn : Int → Bool) (g : Nat) (z : List Int) : Prop where
 s : IsS w c sn
 g : w.heap[g]? = some (.cells (NA z) 39 (0, 0))
 ch : Chg w0 w No
theorem SW.step {w0 w w' : World} {c : SC} {sn : Int → Bool} {g : Nat} {z : List Int} (h : SW w0 w c sn g z) (hc : Chg w w' No) : SW w0 w' c sn g z :=
 ⟨h.s.call hc, hc.keep h.g (fun e => e), h.ch.trans hc (fun _ _ e => e) (fun _ _ e => e)⟩
theorem SlOwn.step {w w' : World} {B : Nat} {v : Value} {l : List (Int × ByteArray)} (h : SlOwn w B v l) (hc : Chg w w' No) : SlOwn w' B v l := h.keep hc fun _ _ e => e
theorem grow_no {w0 w w' : World} {v : Value} {l : List (Int × ByteArray)} (h : SlOwn w w0.heap.size v l) (hc0 : Chg w0 w No) (hc : Chg w w' (fun k => v.ownBlock = some k)) : Chg w0 w' No :=
 hc0.trans hc (fun _ _ e => e) (fun j hj e => by have := (h.blk e).1; omega)

set_option maxHeartbeats 2000000 in
set_option maxRecDepth 100000 in
theorem slots_any {c : SC} {sn : Int → Bool} (z : List Int) (hz : InoOk c z) (w : World) (h : IsS w c sn) :
  Calls Tryz.prog 46 #[.pointer (some ⟨c.p, 0, none⟩), .agg (NA z)] w fun e w' => SlPost c.im (slB c.im z (cntZ z).toNat) w e w' := by
 obtain ⟨K, hK⟩ : ∃ K : Nat, (K : Int) = cntZ z := ⟨(cntZ z).toNat, by have := hz.s0; unfold cntZ; omega⟩
 have hK2 : K ≤ 1068 := by have := hz.s1; unfold cntZ at hK; omega
 have HKn : Hid ((cntZ z).toNat = K) := hid (by omega)
 have hCN : ∀ W, Calls Tryz.prog 43 #[.agg (NA z)] W fun e w' => e = .returned (.int .i64 (K : Int)) ∧ Chg W w' No := fun W => by
  rw [hK]
  exact rcount_any z hz.len hz.s0 (by have := hz.s1; omega) W
 rw [HKn.out];have hA := Chg.alloc w (.cells (NA z) 39) No;have hg := heap_alloc_new w (.cells (NA z) 39);have HZ := hid hz;have HL : Hid (z.length = 18) := hid hz.len;have HW0 : Hid (SW w (w.alloc (.cells (NA z) 39)) c sn w.heap.size z) := hid ⟨h.call hA, hg, hA⟩;obtain ⟨g, hgd⟩ : ∃ x, x = w.heap.size := ⟨_, rfl⟩;have HCN := hid hCN;have H0 := hid h;have HK := hid hK;clear hA hg h hz hCN hK HKn
 go_enter Tryz.func46, Tryz.ntmps46
 go_wp2_with fail
 rw [← hgd] at HW0 ⊢;have HGd := hid hgd;clear hgd
 go_loopw [6, 7] (fun x6 x7 wr => ∃ (k : Nat) (vv : Value), vv = x6 ∧ k ≤ K ∧ x7 = .int .i64 k ∧ Hid (∀ x ∈ slB c.im z k, errAt c.im x = 0) ∧ Hid (SlOwn wr w.heap.size vv (liveL c.im (slB c.im z k))) ∧ Hid (SW w wr c sn g z)) (fun _ x7 _ => K - (intOf x7).toNat)
 case atStart => exact ⟨0, _, rfl, by omega, rfl, hid (fun x hx => by cases hx), hid (World.ownsRow_nil _ _ _ _), HW0⟩
 case round =>
  obtain ⟨k, vv, rfl, hk, rfl, HE, HO, HS⟩ := hrel;clear HW0;have HC := hid (HCN.out wr);have HG := hid HS.out.g
  by_cases hlt : k < K
  ·have i0 : (0 : Int) ≤ (k : Int) := by omega
   have i1 : (k : Int) < (K : Int) := by omega
   have HSu := hid (slB_succ c.im z k);obtain ⟨y, hy⟩ : ∃ y, y = blkP c.im z k := ⟨_, rfl⟩;have hdat := HZ.out.dat k (by omega);rw [← hy] at hdat HSu
   have HBk : Hid (∀ W, IsS W c sn → Calls Tryz.prog 47 #[.pointer (some ⟨c.p, 0, none⟩), .agg (NA z), .int .i64 k] W fun e w' => e = .returned (.int .i64 y) ∧ Chg W w' No) := hid (by
    rw [hy]
    exact fun W hW => blk_any z HZ.out.len HZ.out.blk k (by omega) W hW)
   have HMm : Hid (y ≠ 0 → y ∈ slB c.im z K) := hid (by rw [hy]; exact slB_mem c.im z hlt);clear hy
   by_cases hy0 : y = 0
   ·subst hy0
    rw [if_pos rfl, List.append_nil] at HSu;clear hdat
    go_wp2_with (first
     | (go_at_call 43; go_must (refine HC.out.mono ?_; rintro e w1 ⟨rfl, hc1⟩; have HS1 := hid (HS.out.step hc1); have HG1 := hid HS1.out.g))
     | (go_at_call 47; go_must (refine (HBk.out w1 HS1.out.s).mono ?_; rintro e w2 ⟨rfl, hc2⟩))
     | (refine load_R rfl 39 _ rfl g rfl 39 _ _ HG1.out Tryz.underlying39 rfl (by rw [szI, NA_size, HL.out]) ?_)
     | (refine load_R rfl 39 _ rfl g rfl 39 _ _ HG.out Tryz.underlying39 rfl (by rw [szI, NA_size, HL.out]) ?_)
     | fail)
    exact ⟨⟨k + 1, vv, rfl, by omega, by go_num, by rw [HSu.out]; exact HE, by rw [HSu.out]; exact hid ((HO.out.step hc1).step hc2), hid (HS1.out.step hc2)⟩, by simp [intOf]; omega⟩
   ·rw [if_neg hy0] at HSu
    obtain ⟨m, rfl, hm⟩ : ∃ m : Nat, y = (m : Int) ∧ m < c.N := ⟨y.toNat, by have := hdat hy0; omega, by have := hdat hy0; omega⟩
    have hyb : ((m : Int) == 0) = false := by simpa using hy0
    have m0 : (0 : Int) ≤ (m : Int) := by omega
    have m1 : (m : Int) < (c.N : Int) := by omega
    obtain ⟨b, o, hc2', hr⟩ := img_sec HS.out.s hm;obtain ⟨sk, hsk⟩ : ∃ x, x = secI c.im (m : Int) := ⟨_, rfl⟩;have HSk : Hid (IsSec sk) := hid (by rw [hsk]; exact HS.out.s.ci.secI _);rw [← hsk] at hr;have HIm := hid hc2';have HRg := hid hr;obtain ⟨so, hso⟩ : ∃ x, x = slotOf sk := ⟨_, rfl⟩
    have HRS : Hid (∀ W, Calls Tryz.prog 76 #[.agg (SA sk)] W fun e w' => e = .returned (.tuple #[.agg #[.int .i64 so.1, .string so.2.1], .int .i64 so.2.2]) ∧ Chg W w' No) := hid (by
     rw [hso]
     exact fun W => rslot_c sk HSk.out W)
    have HEr : Hid (errAt c.im (m : Int) = so.2.2) := hid (by unfold errAt; rw [hso, hsk]);have HIn : Hid (inoAt c.im (m : Int) = so.1) := hid (by unfold inoAt; rw [hso, hsk]);have HNm : Hid (nameAt c.im (m : Int) = so.2.1) := hid (by unfold nameAt; rw [hso, hsk]);clear hsk hso hdat hc2' hr;obtain ⟨i, nm, er⟩ := so
    simp only at HRS HEr HIn HNm
    go_upto_region 7 with (first
     | (go_at_call 43; go_must (refine HC.out.mono ?_; rintro e w1 ⟨rfl, hc1⟩; have HS1 := hid (HS.out.step hc1); have HG1 := hid HS1.out.g))
     | (go_at_call 47; go_must (refine (HBk.out w1 HS1.out.s).mono ?_; rintro e w2 ⟨rfl, hc2⟩))
     | (refine load_R rfl 39 _ rfl g rfl 39 _ _ HG1.out Tryz.underlying39 rfl (by rw [szI, NA_size, HL.out]) ?_)
     | (refine load_R rfl 39 _ rfl g rfl 39 _ _ HG.out Tryz.underlying39 rfl (by rw [szI, NA_size, HL.out]) ?_)
     | fail)
    have HC2 : Hid (Chg wr w2 No) := hid (hc1.trans hc2 (fun _ _ e => e) (fun _ _ e => e));have HS2 := hid (HS1.out.step hc2);have c2 := HIm.out w2 HC2.out;have HR2 := hid (HRg.out w2 HC2.out);have HO2 := hid (HO.out.step HC2.out);clear hc1 hc2 HS1 HG1 HG HC HBk HO HS HIm HRg
    by_cases her : er = 0
    ·subst her
     by_cases hi : i = 0
     ·subst hi
      go_wp2_with (first
       | (refine load_mid 36 _ rfl b (o + m * 128) rfl _ _ HR2.out Tryz.underlying36 rfl (by rw [sz26, List.length_map, HSk.out.1]) (by rfl) ?_)
       | (go_at_call 76; go_must (refine (HRS.out w2).mono ?_; rintro e w3 ⟨rfl, hc3⟩))
       | fail)
      have hc4 : Chg w2 (w3.alloc (.cells #[.int .i64 0, .string nm] 82)) No := hc3.trans (Chg.alloc _ _ No) (fun _ _ e => e) (fun _ _ e => e);refine ⟨⟨k + 1, vv, rfl, by omega, by go_num, hid ?_, hid ?_, hid (HS2.out.step hc4)⟩, by simp [intOf]; omega⟩
      ·rw [HSu.out]
       intro x hx
       rcases List.mem_append.1 hx with q | q
       ·exact HE.out x q
       ·rw [List.mem_singleton.1 q, HEr.out]
      ·rw [HSu.out, liveL_app, liveL_one, if_pos HIn.out, List.append_nil]
       exact HO2.out.step hc4
     ·have hib : (i == 0) = false := by simpa using hi
      go_upto_region 11 with (first
       | (refine load_mid 36 _ rfl b (o + m * 128) rfl _ _ HR2.out Tryz.underlying36 rfl (by rw [sz26, List.length_map, HSk.out.1]) (by rfl) ?_)
       | (go_at_call 76; go_must (refine (HRS.out w2).mono ?_; rintro e w3 ⟨rfl, hc3⟩))
       | fail)
      obtain ⟨w4, hw4⟩ : ∃ x, x = w3.alloc (.cells #[.int .i64 i, .string nm] 82) := ⟨_, rfl⟩
      have hc4 : Chg w2 w4 No := by rw [hw4]; exact hc3.trans (Chg.alloc _ _ No) (fun _ _ e => e) (fun _ _ e => e)
      have hb4 : w4.heap[w3.heap.size]? = some (.cells #[.int .i64 i, .string nm] 82 (0, 0)) := by rw [hw4]; exact heap_alloc_new _ _
      obtain ⟨g4, hg4⟩ : ∃ x, x = w3.heap.size := ⟨_, rfl⟩;rw [← hw4, ← hg4];rw [← hg4] at hb4;have q0 : w4.cell? ⟨g4, 0, none⟩ = some (.int .i64 i) := (cell_of_row _ _ _ _ _ _ hb4).trans rfl;have q1 : w4.cell? ⟨g4, 1, none⟩ = some (.string nm) := (cell_of_row _ _ _ _ _ _ hb4).trans rfl;clear hw4 hg4 hc3 hb4;have e0 : (w4.alloc (.cells #[.int .i64 i, .string nm] 82)).cell? ⟨w4.heap.size, 0, none⟩ = some (.int .i64 i) := (cell_of_row _ _ _ _ _ _ (heap_alloc_new w4 _)).trans rfl;have e1 : (w4.alloc (.cells #[.int .i64 i, .string nm] 82)).cell? ⟨w4.heap.size, 1, none⟩ = some (.string nm) := (cell_of_row _ _ _ _ _ _ (heap_alloc_new w4 _)).trans rfl;have HC5 : Hid (Chg w2 (w4.alloc (.cells #[.int .i64 i, .string nm] 82)) No) := hid (hc4.trans (Chg.alloc _ _ No) (fun _ _ e => e) (fun _ _ e => e));have HO5 := hid (HO2.out.step HC5.out);have HB5 : Hid (w.heap.size ≤ (w4.alloc (.cells #[.int .i64 i, .string nm] 82)).heap.size) := hid (Nat.le_trans HS2.out.ch.size HC5.out.size);have HT : Hid ((liveL c.im (slB c.im z k)).length ≤ 1000000) := hid (by have := liveL_len c.im (slB c.im z k); have := slB_len c.im z k; omega);clear hc4
      go_wp2_with (first
       | (at_builtin; go_must (refine wp_appSl rfl _ _ rfl w.heap.size w4.heap.size 1 vv _ (i, nm) rfl rfl HO5.out e0 e1 HT.out HB5.out ?_; intro v' w7 hO7 hc7))
       | fail)
      have hS5 := HS2.out.step HC5.out
      have hn : ∀ {x : Obj} {j : Nat}, (w4.alloc (.cells #[.int .i64 i, .string nm] 82)).heap[j]? = some x → (∀ A, x ≠ .cells A 82 (0, 0)) → ¬ vv.ownBlock = some j := fun {x j} hj hx e => by
       obtain ⟨_, A, hA⟩ := HO5.out.blk e;rw [hj] at hA
       exact hx A (Option.some.inj hA)
      refine ⟨⟨k + 1, v', rfl, by omega, by go_num, hid ?_, hid ?_, hid ?_⟩, by simp [intOf]; omega⟩
      ·rw [HSu.out]
       intro x hx
       rcases List.mem_append.1 hx with q | q
       ·exact HE.out x q
       ·rw [List.mem_singleton.1 q, HEr.out]
      ·rw [HSu.out, liveL_app, liveL_one, HIn.out, HNm.out, if_neg hi]
       exact hO7
      ·have hch := grow_no HO5.out hS5.ch hc7
       exact ⟨H0.out.call hch, hc7.keep hS5.g (hn hS5.g fun A e => (by cases e)), hch⟩
    ·have herb : (er == 0) = false := by simpa using her
     go_wp2_with (first
      | (refine load_mid 36 _ rfl b (o + m * 128) rfl _ _ HR2.out Tryz.underlying36 rfl (by rw [sz26, List.length_map, HSk.out.1]) (by rfl) ?_)
      | (go_at_call 76; go_must (refine (HRS.out w2).mono ?_; rintro e w3 ⟨rfl, hc3⟩))
      | fail)
     go_ret2
     refine ⟨HS2.out.ch.trans (hc3.trans (Chg.alloc _ _ No) (c := No) (fun _ _ e => e) (fun _ _ e => e)) (fun _ _ e => e) (fun _ _ e => e), .inr ⟨⟨(m : Int), HMm.out hy0, ?_⟩, rfl⟩⟩;rw [HEr.out]
     exact her
  ·have i1 : ¬ (k : Int) < (K : Int) := by omega
   obtain rfl : k = K := by omega
   go_wp2_with (first
    | (go_at_call 43; go_must (refine HC.out.mono ?_; rintro e w1 ⟨rfl, hc1⟩))
    | (refine load_R rfl 39 _ rfl g rfl 39 _ _ HG.out Tryz.underlying39 rfl (by rw [szI, NA_size, HL.out]) ?_)
    | fail)
   go_ret2
   exact ⟨HS.out.ch.trans hc1 (fun _ _ e => e) (fun _ _ e => e), .inl ⟨HE.out, vv, rfl, HO.out.step hc1⟩⟩
end Go.Proofs.YtpmignilhoihnabGreat

namespace Go.Proofs.YtpmignilhoihnabGreat
open Go.RowKit Go.Shelf

noncomputable def tailB (im : Img) (z : List Int) : Bool := @decide (tailP im z) (Classical.propDecidable _)
theorem tailB_true {im : Img} {z : List Int} (h : tailP im z) : tailB im z = true := @decide_eq_true _ (Classical.propDecidable _) h
theorem tailB_false {im : Img} {z : List Int} (h : ¬ tailP im z) : tailB im z = false := @decide_eq_false _ (Classical.propDecidable _) h
theorem tl_cell {w : World} {b o : Nat} {s : List Int} (hs : IsSec s) (h : w.rangeAt b o (s.map (Value.int .u8))) {j : Nat} (hj : j < 128) : w.cell? ⟨b, o + j, none⟩ = some (.int .u8 (s.getD j 0)) := by
 have hl := hs.1
 exact h j (.int .u8 (s.getD j 0)) (by simp [hl, hj])

set_option maxHeartbeats 2000000 in
set_option maxRecDepth 100000 in
theorem tail_any {c : SC} {sn : Int → Bool} (z : List Int) (hz : InoOk c z) (w : World) (h : IsS w c sn) :
  Calls Tryz.prog 24 #[.pointer (some ⟨c.p, 0, none⟩), .agg (NA z)] w fun e w' => e = .returned (.bool (tailB c.im z)) ∧ Chg w w' No := by
 obtain ⟨r, hr⟩ : ∃ r : Nat, (r : Int) = z.getD 2 0 % 128 := ⟨(z.getD 2 0 % 128).toNat, by omega⟩
 have hr2 : r < 128 := by omega
 have s0 := hz.s0;have s1 := hz.s1;have hA := Chg.alloc w (.cells (NA z) 39) No;have hg := heap_alloc_new w (.cells (NA z) 39);have hq := row_cell hg 2 (by rw [hz.len]; omega);have HZ := hid hz;have HL : Hid (z.length = 18) := hid hz.len;have HW0 : Hid (SW w (w.alloc (.cells (NA z) 39)) c sn w.heap.size z) := hid ⟨h.call hA, hg, hA⟩;have HG := hid hg
 have htm : (z.getD 2 0).tmod 128 = (r : Int) := by rw [Int.tmod_eq_emod_of_nonneg s0, hr]
 by_cases e0 : r = 0
 ·subst e0
  have hT : tailB c.im z = true := tailB_true fun q => absurd hr.symm q
  rw [hT]
  generalize z.getD 2 0 = y at *
  clear hr hA hg h hz hT s0 s1
  go_enter Tryz.func24, Tryz.ntmps24
  go_wp2_with fail
  go_ret
  exact ⟨rfl, HW0.out.ch⟩
 ·obtain ⟨K, hK⟩ : ∃ K : Nat, (K : Int) + 1 = cntZ z := ⟨(cntZ z - 1).toNat, by unfold cntZ; omega⟩
  have hK2 : K < 1068 := by unfold cntZ at hK; omega
  have hKn : (cntZ z - 1).toNat = K := by omega
  have HCN : Hid (∀ W, Calls Tryz.prog 43 #[.agg (NA z)] W fun e w' => e = .returned (.int .i64 ((K : Int) + 1)) ∧ Chg W w' No) := hid (fun W => by
   rw [hK]
   exact rcount_any z HZ.out.len HZ.out.s0 (by omega) W)
  have HBk : Hid (∀ W, IsS W c sn → Calls Tryz.prog 47 #[.pointer (some ⟨c.p, 0, none⟩), .agg (NA z), .int .i64 K] W fun e w' => e = .returned (.int .i64 (blkP c.im z K)) ∧ Chg W w' No) := hid (fun W hW => blk_any z HZ.out.len HZ.out.blk K hK2 W hW)
  have HT : Hid (tailP c.im z ↔ (blkP c.im z K ≠ 0 → ∀ k : Nat, r ≤ k → k < 128 → (secI c.im (blkP c.im z K)).getD k 0 = 0)) := hid (by
   unfold tailP;rw [hKn, ← hr]
   exact ⟨fun q a k h1 h2 => q (by omega) a k (by omega) h2, fun q _ a k h1 h2 => q a k (by omega) h2⟩)
  have hdat := HZ.out.dat K hK2
  have wk : IntKind.i64.wrap (K : Int) = (K : Int) := by rw [IntKind.wrap_i64]; omega
  have wk1 : IntKind.i64.wrap ((K : Int) + 1 - 1) = (K : Int) := by rw [IntKind.wrap_i64]; omega
  have hrb : ((r : Int) == 0) = false := by simp; omega
  obtain ⟨tb, htb⟩ : ∃ b, b = tailB c.im z := ⟨_, rfl⟩;have HTT : Hid (tailP c.im z → tb = true) := hid (fun q => by rw [htb]; exact tailB_true q);have HTF : Hid (¬ tailP c.im z → tb = false) := hid (fun q => by rw [htb]; exact tailB_false q);rw [← htb];clear htb
  generalize blkP c.im z K = y at *
  generalize z.getD 2 0 = sz at *
  clear hr hA hg h hz s0 s1 hK hKn
  go_enter Tryz.func24, Tryz.ntmps24
  go_upto_region 3 with fail
  obtain ⟨W0, hW0⟩ : ∃ x, x = w.alloc (.cells (NA z) 39) := ⟨_, rfl⟩;rw [← hW0] at HW0 hq HG ⊢;obtain ⟨g, hgd⟩ : ∃ x, x = w.heap.size := ⟨_, rfl⟩;rw [← hgd] at HW0 hq HG ⊢;clear hW0 hgd;refine wp_region_noPanic ?_;refine wp_region_held_drew (S := fun w' => Chg W0 w' No) (by kernel_rfl) (Chg.refl _ _).drew (fun hH => ?_);refine tV 0 11 (.pointer (some ⟨c.p, 0, none⟩)) rfl (by kernel_rfl) rfl (by rfl) hH (fun _ hw' => rfl) ?_;simp only [sS];refine takeR 1 12 39 (.tmp 3) g 39 (NA z) _ rfl (by kernel_rfl) (by kernel_rfl) (by kernel_rfl) rfl rfl rfl Tryz.underlying39 rfl (by rw [szI, NA_size, HL.out]) (by rfl) (fun _ _ _ h => h) hH (fun W' hw' => Chg.keep hw' HG.out (fun e => e)) ?_;simp only [sS];refine takeR 2 13 39 (.tmp 3) g 39 (NA z) _ rfl (by kernel_rfl) (by kernel_rfl) (by kernel_rfl) rfl rfl rfl Tryz.underlying39 rfl (by rw [szI, NA_size, HL.out]) (by rfl) (fun _ _ _ h => h) hH (fun W' hw' => Chg.keep hw' HG.out (fun e => e)) ?_;simp only [sS];refine step1 3 (by kernel_rfl) ?_;refine stCall 3 14 43 #[.agg (NA z)] _ rfl rfl (by rfl) (by go_simp) (HCN.out _) ?_
  rintro e w1 ⟨rfl, hc1⟩
  have hH1 : Chg W0 w1 No := hH.trans hc1 (fun _ _ e => e) (fun _ _ e => e);clear hc1 hH;refine ⟨_, rfl, hH1, ?_⟩;simp only [sS]
  refine tV 4 15 (.int .i64 (K : Int)) rfl (by kernel_rfl) rfl (by rfl) hH1 (fun _ hw' => by go_simp <;> first | exact wk | exact wk1) ?_
  clear wk wk1;simp only [sS];refine step1 5 (by kernel_rfl) ?_;refine stCall 5 16 47 #[.pointer (some ⟨c.p, 0, none⟩), .agg (NA z), .int .i64 K] _ rfl rfl (by rfl) (by go_simp) (HBk.out _ (HW0.out.s.call hH1)) ?_
  rintro e w2 ⟨rfl, hc2⟩
  have hH2 : Chg W0 w2 No := hH1.trans hc2 (fun _ _ e => e) (fun _ _ e => e);clear hc2 hH1;refine ⟨_, rfl, hH2, ?_⟩;simp only [sS];refine tV 6 5 (.int .i64 y) rfl (by kernel_rfl) rfl (by rfl) hH2 (fun _ hw' => rfl) ?_;simp only [sS];refine wpAnyH_done (by kernel_rfl) ?_ _;refine NoPanic.normal ?_;have hq2 := cell_keep hq hH2 (slt HG.out) (fun e => e);have HS2 := hid (HW0.out.step hH2);clear hq HG HW0 hH2 HCN HBk
  by_cases hy0 : y = 0
  ·subst hy0
   have HV : Hid (tb = true) := hid (HTT.out (HT.out.2 fun q => absurd rfl q))
   go_wp2_with fail
   go_loop [6] (fun x6 => ∃ k : Nat, x6 = .int .i64 k ∧ k ≤ 128) (fun x6 => 128 - (intOf x6).toNat)
   case atStart => exact ⟨r, rfl, by omega⟩
   case round =>
    obtain ⟨k, rfl, hk⟩ := hrel
    by_cases hlt : k < 128
    ·have j1 : (k : Int) < 128 := by omega
     go_wp2_with fail
     go_ret
     exact ⟨by rw [HV.out]; rfl, HS2.out.ch⟩
    ·have j1 : ¬ (k : Int) < 128 := by omega
     go_wp2_with fail
     go_ret
     exact ⟨by rw [HV.out]; rfl, HS2.out.ch⟩
  ·obtain ⟨m, rfl, hm⟩ : ∃ m : Nat, y = (m : Int) ∧ m < c.N := ⟨y.toNat, by have := hdat hy0; omega, by have := hdat hy0; omega⟩
   have hyb : ((m : Int) == 0) = false := by simpa using hy0
   have m0 : (0 : Int) ≤ (m : Int) := by omega
   have m1 : (m : Int) < (c.N : Int) := by omega
   obtain ⟨b, o, hc2', hr⟩ := img_sec HS2.out.s hm;have c2 := hc2' _ (Chg.refl _ _);obtain ⟨sk, hsk⟩ : ∃ x, x = secI c.im (m : Int) := ⟨_, rfl⟩;have HSk : Hid (IsSec sk) := hid (by rw [hsk]; exact HS2.out.s.ci.secI _);have HR : Hid (w2.rangeAt b (o + m * 128) (sk.map (Value.int .u8))) := hid (by rw [hsk]; exact hr _ (Chg.refl _ _));rw [← hsk] at HT;have HY := hid hy0;clear hsk hc2' hr hdat hy0
   go_wp2_with fail
   go_loop [6] (fun x6 => ∃ k : Nat, x6 = .int .i64 k ∧ r ≤ k ∧ k ≤ 128 ∧ Hid (∀ j : Nat, r ≤ j → j < k → sk.getD j 0 = 0)) (fun x6 => 128 - (intOf x6).toNat)
   case atStart => exact ⟨r, rfl, by omega, by omega, hid (fun j h1 h2 => by omega)⟩
   case round =>
    obtain ⟨k, rfl, hk1, hk, HA⟩ := hrel
    by_cases hlt : k < 128
    ·have j0 : (0 : Int) ≤ (k : Int) := by omega
     have j1 : (k : Int) < 128 := by omega
     have hcl := tl_cell HSk.out HR.out hlt;obtain ⟨x, hx⟩ : ∃ x, x = sk.getD k 0 := ⟨_, rfl⟩;rw [← hx] at hcl;have HX := hid hx;clear hx
     by_cases hx0 : x = 0
     ·subst hx0
      go_wp2_with fail
      exact ⟨⟨k + 1, by go_num, by omega, by omega, hid (fun j h1 h2 => by
       by_cases e : j = k
       ·subst e; exact HX.out.symm
       ·exact HA.out j h1 (by omega))⟩, by simp [intOf]; omega⟩
     ·have hxb : (x == 0) = false := by simpa using hx0
      have HV : Hid (tb = false) := hid (HTF.out fun q => hx0 (by rw [HX.out]; exact HT.out.1 q HY.out k hk1 hlt))
      go_wp2_with fail
      go_ret
      exact ⟨by rw [HV.out]; rfl, HS2.out.ch⟩
    ·have j1 : ¬ (k : Int) < 128 := by omega
     have HV : Hid (tb = true) := hid (HTT.out (HT.out.2 fun _ j h1 h2 => HA.out j h1 (by omega)))
     go_wp2_with fail
     go_ret
     exact ⟨by rw [HV.out]; rfl, HS2.out.ch⟩
end Go.Proofs.YtpmignilhoihnabGreat

namespace Go.Proofs.YtpmignilhoihnabGreat
open Go.RowKit Go.Shelf

def InAt (w : World) (b n : Nat) (f : Nat → List Int) : Prop := ∃ A, w.heap[b]? = some (.cells A 39 (0, 0)) ∧ ∀ i, i < n → ∀ j, j < 18 → A[i * 18 + j]? = some (.int .i64 ((f i).getD j 0))
theorem InAt.keep {w w' : World} {b n : Nat} {f : Nat → List Int} {ks : Nat → Prop} (h : InAt w b n f) (hc : Chg w w' ks) (hn : ¬ ks b) : InAt w' b n f := by
 obtain ⟨A, h1, h2⟩ := h
 exact ⟨A, hc.keep h1 hn, h2⟩
theorem InAt.cell {w : World} {b n : Nat} {f : Nat → List Int} (h : InAt w b n f) {i j : Nat} (hi : i < n) (hj : j < 18) : w.cell? ⟨b, i * 18 + j, none⟩ = some (.int .i64 ((f i).getD j 0)) := by
 obtain ⟨A, h1, h2⟩ := h
 exact (cell_of_row _ _ _ _ _ _ h1).trans (h2 i hi j hj)
theorem InAt.cell0 {w : World} {b n : Nat} {f : Nat → List Int} (h : InAt w b n f) {i : Nat} (hi : i < n) : w.cell? ⟨b, i * 18, none⟩ = some (.int .i64 ((f i).getD 0 0)) := by
 have q := h.cell hi (j := 0) (by omega);rw [Nat.add_zero] at q
 exact q
theorem InAt.range {w : World} {b n : Nat} {f : Nat → List Int} (h : InAt w b n f) {i : Nat} (hi : i < n) (hl : (f i).length = 18) : w.rangeAt b (i * 18) ((f i).map (Value.int .i64)) := by
 intro j v hv
 rw [List.getElem?_map] at hv
 cases hx : (f i)[j]? with
 | none => rw [hx] at hv; cases hv
 | some x =>
  rw [hx] at hv;have := Option.some.inj hv;subst this
  have hj : j < 18 := by have := (List.getElem?_eq_some_iff.1 hx).1; omega
  rw [h.cell hi hj, List.getD_eq_getElem?_getD, hx]
  rfl
def putF18 (f : Nat → List Int) (i : Nat) (z : List Int) : Nat → List Int := fun j => if j = i then z else f j
theorem InAt.set {w : World} {b n : Nat} {f : Nat → List Int} (h : InAt w b n f) {k : Nat} (hk : k < n) {z : List Int} (hz : z.length = 18) :
  InAt (w.setCells b (k * 18) (z.map (Value.int .i64))) b n (putF18 f k z) ∧ Chg w (w.setCells b (k * 18) (z.map (Value.int .i64))) (· = b) := by
 obtain ⟨A, h1, h2⟩ := h;obtain ⟨A', k1, k2, k3, k4, k5⟩ := setCells_row (z.map (Value.int .i64)) (k * 18) w A h1;refine ⟨⟨A', k1, fun i hi j hj => ?_⟩, k4⟩;rw [k3, List.length_map, hz];have hb : i * 18 + j < A.size := (Array.getElem?_eq_some_iff.1 (h2 i hi j hj)).1;unfold putF18
 by_cases e : i = k
 ·subst e
  rw [if_pos ⟨by omega, by omega, hb⟩, if_pos rfl, show i * 18 + j - i * 18 = j by omega, List.getElem?_map, List.getElem?_eq_getElem (by omega)]
  simp [hz, hj]
 ·rw [if_neg (by omega), if_neg e]
  exact h2 i hi j hj
def NAt (w : World) (g n : Nat) (f : Int → Int) : Prop := ∃ A, w.heap[g]? = some (.cells A 3 (0, 0)) ∧ ∀ k, k < n → A[k]? = some (.int .i64 (f (k : Int)))
theorem NAt.keep {w w' : World} {g n : Nat} {f : Int → Int} {ks : Nat → Prop} (h : NAt w g n f) (hc : Chg w w' ks) (hn : ¬ ks g) : NAt w' g n f := by
 obtain ⟨A, h1, h2⟩ := h
 exact ⟨A, hc.keep h1 hn, h2⟩
theorem NAt.cell {w : World} {g n : Nat} {f : Int → Int} (h : NAt w g n f) {k : Nat} (hk : k < n) : w.cell? ⟨g, k, none⟩ = some (.int .i64 (f (k : Int))) ∧ w.frozen? ⟨g, k, none⟩ = false := by
 obtain ⟨A, h1, h2⟩ := h
 exact ⟨(cell_of_row _ _ _ _ _ _ h1).trans (h2 k hk), frozen_of_row _ _ _ _ _ h1⟩
theorem NAt.put {w : World} {g n : Nat} {f : Int → Int} (h : NAt w g n f) {k : Nat} (hk : k < n) (v : Int) : NAt (w.setCell ⟨g, k, none⟩ (.int .i64 v)) g n (putI f (k : Int) v) := by
 obtain ⟨A, h1, h2⟩ := h;refine ⟨_, heap_setCell_same w g k A _ _ h1, fun j hj => ?_⟩;rw [Array.getElem?_setIfInBounds];have hs : k < A.size := (Array.getElem?_eq_some_iff.1 (h2 k hk)).1
 by_cases e : k = j
 ·subst e
  rw [if_pos rfl, if_pos hs]
  simp [putI]
 ·rw [if_neg e, h2 j hj]
  have : ¬ (j : Int) = (k : Int) := by omega
  simp [putI, this]
def TA (n : Nat) : Array Value := Array.replicate n (.int .i64 0)
def UA (n : Nat) : Array Value := Array.replicate n (.bool false)
theorem infoBo : ∃ i, Tryz.prog.info? 4 = some i ∧ i.zero = some (.bool false) ∧ i.size = 1 ∧ i.bytes = 1 := by
 have h : (Tryz.prog.info? 4).map (fun i => (i.zero, i.size, i.bytes)) = some (some (.bool false), 1, 1) := by kernel_rfl
 cases hq : Tryz.prog.info? 4 with
 | none => rw [hq] at h; cases h
 | some i =>
  rw [hq] at h
  simp at h
  exact ⟨i, rfl, h.1, h.2.1, h.2.2⟩
theorem made_one (v : Value) (n : Nat) : madeCells #[v] n = Array.replicate n v := by
 apply Array.ext
 ·simp [size_madeCells]
 ·intro i h1 h2
  have e : (#[v] : Array Value)[i % 1]! = v := by rw [Nat.mod_one]; rfl
  simp only [madeCells, Array.getElem_map, Array.getElem_range]
  rw [show (#[v] : Array Value).size = 1 from rfl, e]
  simp
theorem make_bools (n : Nat) (h1 : n ≤ 5000) (w : World) :
  (Instr.makeSlice 48 (.int .i64 (n : Int)) (.int .i64 (n : Int))).run Tryz.prog w = .ok (.slice (some ⟨w.heap.size, 0, none⟩) n n) (w.alloc (.cells (UA n) 4)) := by
 obtain ⟨i, hi, hz, hs, hb⟩ := infoBo;rw [run_make w 48 4 i _ Tryz.underlying48 hi hz .i64 .i64 n n (by omega) (Int.le_refl _) (by rw [hb]; omega) (by omega), hs, Nat.mul_one];rw [show Value.cells (.bool false) = #[Value.bool false] from rfl, made_one, Int.toNat_natCast]
 rfl
theorem make_ints (n : Nat) (h1 : n ≤ 5000) (w : World) :
  (Instr.makeSlice 24 (.int .i64 (n : Int)) (.int .i64 (n : Int))).run Tryz.prog w = .ok (.slice (some ⟨w.heap.size, 0, none⟩) n n) (w.alloc (.cells (TA n) 3)) := by
 obtain ⟨i, hi, hz, hs, hb⟩ := infoI;rw [run_make w 24 3 i _ Tryz.underlying24 hi hz .i64 .i64 n n (by omega) (Int.le_refl _) (by rw [hb]; omega) (by omega), hs, Nat.mul_one];rw [show Value.cells (.int .i64 0) = #[Value.int .i64 0] from rfl, made_one, Int.toNat_natCast]
 rfl
theorem nat_made (w : World) (n : Nat) : NAt (w.alloc (.cells (TA n) 3)) w.heap.size n (fun _ => 0) :=
 ⟨_, heap_alloc_new _ _, fun k hk => by simp [TA, hk]⟩
theorem bat_made (w : World) (n : Nat) : BAt (w.alloc (.cells (UA n) 4)) w.heap.size n (fun _ => false) :=
 ⟨_, heap_alloc_new _ _, fun k hk => by simp [UA, hk]⟩
structure NW (w0 w : World) (c : SC) (sn : Int → Bool) (n tb rb : Nat) (f : Nat → List Int) (tm : Int → Int) (R : Int → Bool) : Prop where
 s : IsS w0 c sn
 i : InAt w0 c.ib n f
 ch : Chg w0 w No
 t : NAt w tb n tm
 r : BAt w rb n R
 tn : w0.heap.size ≤ tb
 rn : w0.heap.size ≤ rb
section
variable {w0 w w' : World} {c : SC} {sn : Int → Bool} {n tb rb : Nat} {f : Nat → List Int} {tm : Int → Int} {R : Int → Bool}
theorem NW.is (h : NW w0 w c sn n tb rb f tm R) : IsS w c sn := h.s.call h.ch
theorem NW.ino (h : NW w0 w c sn n tb rb f tm R) : InAt w c.ib n f := h.i.keep h.ch fun e => e
theorem NW.step (h : NW w0 w c sn n tb rb f tm R) (hc : Chg w w' No) : NW w0 w' c sn n tb rb f tm R :=
 ⟨h.s, h.i, h.ch.trans hc (fun _ _ e => e) (fun _ _ e => e), h.t.keep hc (fun e => e), h.r.keep hc (fun e => e), h.tn, h.rn⟩
theorem NW.ne (h : NW w0 w c sn n tb rb f tm R) : tb ≠ rb := by
 obtain ⟨A, hA, _⟩ := h.t;obtain ⟨C, hC, _⟩ := h.r
 exact obj_ne hA hC (by intro e; cases e)
theorem NW.putT (h : NW w0 w c sn n tb rb f tm R) {k : Nat} (hk : k < n) (v : Int) : NW w0 (w.setCell ⟨tb, k, none⟩ (.int .i64 v)) c sn n tb rb f (putI tm (k : Int) v) R := by
 have hc : Chg w (w.setCell ⟨tb, k, none⟩ (.int .i64 v)) (· = tb) := Chg.setCell
 exact ⟨h.s, h.i, h.ch.trans hc (fun _ _ e => e) (fun j hj e => by have := h.tn; omega), h.t.put hk v, h.r.keep hc (fun e => h.ne e.symm), h.tn, h.rn⟩
theorem NW.putR (h : NW w0 w c sn n tb rb f tm R) {k : Nat} (hk : k < n) : NW w0 (w.setCell ⟨rb, k, none⟩ (.bool true)) c sn n tb rb f tm (putC R (k : Int)) := by
 have hc : Chg w (w.setCell ⟨rb, k, none⟩ (.bool true)) (· = rb) := Chg.setCell
 exact ⟨h.s, h.i, h.ch.trans hc (fun _ _ e => e) (fun j hj e => by have := h.rn; omega), h.t.keep hc (fun e => h.ne e), h.r.put hk, h.tn, h.rn⟩
theorem SlAt.putT {a : Option Addr} {l : List (Int × ByteArray)} (h : SlAt w a l) (hN : NW w0 w c sn n tb rb f tm R) {k : Nat} {v : Value} : SlAt (w.setCell ⟨tb, k, none⟩ v) a l :=
 h.keep (Chg.setCell (w := w) (g := tb) (j := k) (v := v)) fun j A hA e => by
  obtain ⟨C, hC, _⟩ := hN.t
  exact obj_ne hA hC (by intro e; cases e) e
theorem SlAt.putR {a : Option Addr} {l : List (Int × ByteArray)} (h : SlAt w a l) (hN : NW w0 w c sn n tb rb f tm R) {k : Nat} {v : Value} : SlAt (w.setCell ⟨rb, k, none⟩ v) a l :=
 h.keep (Chg.setCell (w := w) (g := rb) (j := k) (v := v)) fun j A hA e => by
  obtain ⟨C, hC, _⟩ := hN.r
  exact obj_ne hA hC (by intro e; cases e) e
end
noncomputable def rdB (w : World) (rb : Nat) : Int → Bool := fun i => @decide (w.cell? ⟨rb, i.toNat, none⟩ = some (.bool true)) (Classical.propDecidable _)
theorem rdB_is {w : World} {rb n : Nat} {R : Int → Bool} (h : BAt w rb n R) {i : Int} (h0 : 0 ≤ i) (h1 : i < n) : rdB w rb i = R i := by
 unfold rdB;have hc := (h.cell (k := i.toNat) (by omega)).1;rw [show ((i.toNat : Nat) : Int) = i by omega] at hc;rw [hc]
 cases R i <;> simp
theorem notR_is {w : World} {rb n M : Nat} {R : Int → Bool} (h : BAt w rb n R) (hM : M < n) : ∀ k, k ≤ M → notR (rdB w rb) k = notR R k
 | 0, _ => rfl
 | k + 1, hk => by
  unfold notR;rw [notR_is h hM k (by omega), rdB_is h (by omega) (by omega)]
noncomputable def meas (w : World) (rb M : Nat) (x : Value) : Nat := @ite _ (x = .bool true) (Classical.propDecidable _) (1 + notR (rdB w rb) M) 0
theorem meas_lt {w w' : World} {rb n M : Nat} {R R' : Int → Bool} (h : BAt w rb n R) (h' : BAt w' rb n R') (hM : M < n) {mo : Bool} (hm : mo = true → (∀ j : Int, R j = true → R' j = true) ∧ ∃ j : Int, 1 ≤ j ∧ j ≤ M ∧ R j = false ∧ R' j = true) : meas w' rb M (.bool mo) < meas w rb M (.bool true) := by
 unfold meas;rw [if_pos rfl, notR_is h hM M (Nat.le_refl _), notR_is h' hM M (Nat.le_refl _)]
 cases mo with
 | false => rw [if_neg (by intro e; cases e)]; omega
 | true =>
  obtain ⟨h1, j, j1, j2, j3, j4⟩ := hm rfl;rw [if_pos rfl];have := notR_lt h1 j1 j3 j4 M j2
  omega
def NamedPost (M : Nat) (im : Img) (n : Nat) (w : World) (e : Ending) (w' : World) : Prop :=
 Chg w w' No ∧ ((∃ tb rb tm R, e = .returned (.tuple #[.slice (some ⟨tb, 0, none⟩) n n, .slice (some ⟨rb, 0, none⟩) n n, .bool true]) ∧ NAt w' tb n tm ∧ BAt w' rb n R ∧ (∀ i : Int, 1 ≤ i → i ≤ M → kd im i = 2 → DirOk M im i) ∧ (∀ j : Int, 1 ≤ j → j ≤ M → tm j = (timesI M im j : Nat)) ∧ ∀ j : Int, R j = true ↔ Rch M im j)
  ∨ ((∃ i : Int, 1 ≤ i ∧ i ≤ M ∧ kd im i = 2 ∧ ¬ DirOk M im i) ∧ e = .returned (.tuple #[.slice none 0 0, .slice none 0 0, .bool false])))
theorem pairsN_len {im : Img} {M : Nat} (h : ∀ i : Int, 1 ≤ i → i ≤ M → kd im i = 2 → (slotsI im i).length ≤ 1068) : ∀ k : Nat, k ≤ M → (pairsN im k).length ≤ 1068 * k
 | 0, _ => Nat.le_refl _
 | k + 1, hk => by
  have ih := pairsN_len h k (by omega);unfold pairsN;rw [List.length_append]
  have : (dirP im ((k : Int) + 1)).length ≤ 1068 := by
   unfold dirP
   split
   ·rename_i e
    have h1 := h ((k : Int) + 1) (by omega) (by omega) e;have h2 := liveL_len im (slotsI im ((k : Int) + 1));unfold pairsI;rw [List.length_map]
    omega
   ·simp
  omega
theorem cntP_le (P : List (Int × Int)) (j : Int) : cntP P j ≤ P.length := List.countP_le_length
theorem slots_yes {c : SC} {sn : Int → Bool} (i : Int) (hz : InoOk c (zI c.im i)) (hs : slotsI c.im i = slB c.im (zI c.im i) (cntZ (zI c.im i)).toNat) (w : World) (h : IsS w c sn) (hE : ∀ x ∈ slotsI c.im i, errAt c.im x = 0) :
  Calls Tryz.prog 46 #[.pointer (some ⟨c.p, 0, none⟩), .agg (NA (zI c.im i))] w fun e w' => ∃ a cap, e = .returned (.tuple #[.slice a (liveL c.im (slotsI c.im i)).length cap, .bool true]) ∧ SlAt w' a (liveL c.im (slotsI c.im i)) ∧ Chg w w' No := by
 refine (slots_any (zI c.im i) hz w h).mono ?_;rw [hs] at hE ⊢
 rintro e w' ⟨hc, ⟨_, v, rfl, ho⟩ | ⟨⟨x, hx, hn⟩, _⟩⟩
 ·obtain ⟨a, cap, rfl, ha⟩ := slAt_of ho
  exact ⟨a, cap, rfl, ha, hc⟩
 ·exact absurd (hE x hx) hn
theorem slots_no {c : SC} {sn : Int → Bool} (i : Int) (hz : InoOk c (zI c.im i)) (hs : slotsI c.im i = slB c.im (zI c.im i) (cntZ (zI c.im i)).toNat) (w : World) (h : IsS w c sn) (hE : ¬ ∀ x ∈ slotsI c.im i, errAt c.im x = 0) :
  Calls Tryz.prog 46 #[.pointer (some ⟨c.p, 0, none⟩), .agg (NA (zI c.im i))] w fun e w' => e = .returned (.tuple #[.slice none 0 0, .bool false]) ∧ Chg w w' No := by
 refine (slots_any (zI c.im i) hz w h).mono ?_;rw [hs] at hE
 rintro e w' ⟨hc, ⟨h1, _⟩ | ⟨_, rfl⟩⟩
 ·exact absurd h1 hE
 ·exact ⟨rfl, hc⟩
end Go.Proofs.YtpmignilhoihnabGreat
