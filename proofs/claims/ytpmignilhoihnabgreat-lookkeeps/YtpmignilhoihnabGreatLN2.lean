/-
 layout.ReadSlot returns what a slot's sector says, or the error.
-/
import Derived.Test.YtpmignilhoihnabGreatLN1
import Derived.Test.YtpmignilhoihnabGreatPlain2
namespace Go.Proofs.YtpmignilhoihnabGreat
open Go.RowKit

def strOf (c : List Int) : ByteArray := ⟨(c.map fun n => UInt8.ofNat n.toNat).toArray⟩
theorem foldl_push (c : List Int) : ∀ r : ByteArray, c.foldl (fun r n => r.push (UInt8.ofNat n.toNat)) r = ⟨r.data ++ (c.map fun n => UInt8.ofNat n.toNat).toArray⟩ := by
 induction c with
 | nil => intro r; simp
 | cons x c ih =>
  intro r
  rw [List.foldl_cons, ih]
  congr 1
  simp [ByteArray.push]
theorem conv_bytes (w : World) (b o : Nat) (c : List Int) (cap : Nat) (h : ∀ j, j < c.length → w.cell? ⟨b, o + j, none⟩ = some (.int .u8 (c.getD j 0))) :
  (convert 124 9 (.slice (some ⟨b, o, none⟩) c.length cap)).run Tryz.prog w = .ok (.string (strOf c)) w := by
 rw [run_convert_bytes_string w 124 9 5 _ _ _ Tryz.underlying124 Tryz.underlying5 Tryz.underlying9]
 have hl := run_loadCells_list (P := Tryz.prog) w ⟨b, o, none⟩ (c.map (Value.int .u8)) (fun j v hj => by
  have hlt : j < c.length := by
   rcases Nat.lt_or_ge j c.length with k | k
   ·exact k
   ·rw [List.getElem?_eq_none (by simpa using k)] at hj; cases hj
  rw [addr_add, h j hlt]
  simp [hlt] at hj
  simp [hlt, hj])
 rw [List.length_map] at hl;rw [run_bytesToString w _ c.length cap c hl, foldl_push]
 simp [strOf]


def szOf (s : List Int) : Nat := (s.getD 4 0).toNat
def nameOf (s : List Int) : ByteArray := strOf ((s.drop 5).take (szOf s))
def SLA (n : Int) (s : ByteArray) : Array Value := #[.int .i64 n, .string s]
theorem getV_small {s : List Int} (hs : IsSec s) {P L : Nat} (h : P + L ≤ 128) (h1 : 1 ≤ L) (h7 : L ≤ 7) : getV s P L = numAt s P L := by
 have hb := numAt_bd hs P L;have hin : inB (P : Int) (L : Int) = true := inB_true (by omega)
 have hp : (256 : Int) ^ L ≤ 256 ^ 7 := by
  have := Nat.pow_le_pow_right (n := 256) (by decide) h7;have e := Int.ofNat_le.2 this
  simpa [Int.natCast_pow] using e
 have e7 : (256 : Int) ^ 7 = 72057594037927936 := by decide
 have ht : numAt s P L ≤ top := by rw [top_eq]; omega
 unfold getV getE getN
 simp only [Int.toNat_natCast, hin, ht, if_true, and_self]
theorem getV_4 {s : List Int} (hs : IsSec s) : getV s 4 1 = (szOf s : Int) := by
 have h : getV s 4 1 = numAt s 4 1 := getV_small (P := 4) (L := 1) hs (by decide) (by decide) (by decide);have hb := hs.at 4;rw [h]
 simp only [numAt, szOf, Nat.add_zero, Int.pow_zero, Int.mul_one]
 omega
theorem szOf_le {s : List Int} (hs : IsSec s) : szOf s ≤ 255 := by have := hs.at 4; unfold szOf; omega

def rdSlot (n : Int) (s : List Int) : Int × ByteArray × Int := if szOf s ≤ 40 ∧ slotB n (nameOf s) = true ∧ slotS n (nameOf s) = s then (n, nameOf s, 0) else (0, ⟨#[]⟩, 63)

set_option maxRecDepth 100000 in
set_option maxHeartbeats 1000000 in
theorem readSlot_long (s : List Int) (hs : IsSec s) (hK : ¬ szOf s ≤ 40) (w : World) :
  Calls Tryz.prog 36 #[.agg (SA s)] w fun e w' => e = .returned (.tuple #[.agg (SLA 0 ⟨#[]⟩), .int .i64 63]) ∧ Below w.heap.size w w' := by
 have hzs : ∀ w', (zeroValue 82).run Tryz.prog w' = .ok (.agg #[.int .i64 0, .string ⟨#[]⟩]) w' := fun w' => by kernel_rfl
 have hg := fun w' => get1_any s 4 1 w' hs
 rw [getV_4 hs] at hg
 have hk : (40 : Int) < (szOf s : Int) := by omega
 generalize szOf s = K at *
 obtain ⟨W, hW⟩ : ∃ x, x = (w.alloc (.cells (SA s) 36)).alloc (.cells #[.int .i64 0, .string ⟨#[]⟩] 82) := ⟨_, rfl⟩
 have H1 : Hid (W.heap[w.heap.size]? = some (.cells (SA s) 36 (0, 0))) := by show _ = _; rw [hW]; exact heap_alloc2_old w _ _
 have H2 : Hid (W.heap[w.heap.size + 1]? = some (.cells #[.int .i64 0, .string ⟨#[]⟩] 82 (0, 0))) := by show _ = _; rw [hW]; exact heap_alloc2_new w _ _
 have hb : Below w.heap.size w W := by rw [hW]; exact ((Below.refl _ _).alloc (Nat.le_refl _) _).alloc (by simp) _
 have hsz : W.heap.size = w.heap.size + 2 := by rw [hW]; simp
 have hl := hs.1
 go_enter Tryz.func36, Tryz.ntmps36
 go_upto_region 1 with fail
 rw [← hW];clear hW
 go_wp2_with (first | refine load_sec rfl (.tmp 1) rfl w.heap.size rfl s hl H1.out ?_ | (go_at_call 52; refine (hg _).mono ?_; rintro e w2 ⟨rfl, hb2⟩; have HA2 : Hid (w2.heap[w.heap.size + 1]? = some (.cells #[.int .i64 0, .string ⟨#[]⟩] 82 (0, 0))) := by { show _ = _; rw [hb2.block _ (by omega)]; exact H2.out }) | (refine store_R rfl 82 (.tmp 2) _ rfl (w.heap.size + 1) _ rfl rfl 82 _ HA2.out (by kernel_rfl) rfl (by simp [Value.oneCell']) ?_; intro w4 hw4))
 exact bodyPost_ret (v := .tuple #[.agg (SLA 0 ⟨#[]⟩), .int .i64 63]) (results_R Tryz.results36 _ _ (w.heap.size + 1) _ 82 _ _ Tryz.underlying82 rfl (by kernel_rfl) rfl rfl hw4.here) rfl ⟨rfl, hw4.below (btr hb hb2 (by omega)) (by omega)⟩

set_option maxRecDepth 100000 in
set_option maxHeartbeats 4000000 in
theorem readSlot_short (s : List Int) (hs : IsSec s) (hK : szOf s ≤ 40) (hH : Has (nameOf s)) (w : World) :
  Calls Tryz.prog 36 #[.agg (SA s)] w fun e w' => e = .returned (.tuple #[.agg (SLA (rdSlot (getV s 0 4) s).1 (rdSlot (getV s 0 4) s).2.1), .int .i64 (rdSlot (getV s 0 4) s).2.2]) ∧ Below w.heap.size w w' := by
 have hz := zero_sec
 have hzs : ∀ w', (zeroValue 82).run Tryz.prog w' = .ok (.agg #[.int .i64 0, .string ⟨#[]⟩]) w' := fun w' => by kernel_rfl
 have hg := fun w' => get1_any s 4 1 w' hs
 rw [getV_4 hs] at hg;have hl := hs.1
 have hsup := fun w' => slotSector_any (getV s 0 4) (nameOf s) (fun _ => hH) w'
 have HSC := slotS_sec (getV s 0 4) (nameOf s)
 have hrd : rdSlot (getV s 0 4) s = if slotB (getV s 0 4) (nameOf s) = true ∧ slotS (getV s 0 4) (nameOf s) = s then ((getV s 0 4), nameOf s, 0) else (0, ⟨#[]⟩, 63) := by unfold rdSlot; simp [hK]
 have HCV : Hid (∀ w' : World, w'.heap[w.heap.size]? = some (.cells (SA s) 36 (0, 0)) → (convert 124 9 (.slice (some ⟨w.heap.size, 5, none⟩) (szOf s) 123)).run Tryz.prog w' = .ok (.string (nameOf s)) w') := fun w' h => by
  have hlen : ((s.drop 5).take (szOf s)).length = szOf s := by simp [hl]; omega
  have := conv_bytes w' w.heap.size 5 ((s.drop 5).take (szOf s)) 123 (fun j hj => by
   rw [hlen] at hj;rw [sec_cell h (5 + j) (by omega)]
   simp [List.getD_eq_getElem?_getD, hj])
  rw [hlen] at this
  exact this
 generalize hA : (getV s 0 4) = AA at *
 have HGA := hid (fun w' => get1_any s 0 4 w' hs);rw [hA] at HGA
 generalize nameOf s = NN at *
 generalize slotS AA NN = SX at *
 generalize hSB : slotB AA NN = SB at *
 generalize szOf s = K at *
 have hk : (K : Int) ≤ 40 := by omega
 have F1 : (5 : Int) ≤ 5 + (K : Int) := by omega
 have F2 : 5 + (K : Int) ≤ 128 := by omega
 obtain ⟨W, hW⟩ : ∃ x, x = (w.alloc (.cells (SA s) 36)).alloc (.cells #[.int .i64 0, .string ⟨#[]⟩] 82) := ⟨_, rfl⟩
 have hg1 : W.heap[w.heap.size]? = some (.cells (SA s) 36 (0, 0)) := by rw [hW]; exact heap_alloc2_old w _ _
 have hg2 : W.heap[w.heap.size + 1]? = some (.cells #[.int .i64 0, .string ⟨#[]⟩] 82 (0, 0)) := by rw [hW]; exact heap_alloc2_new w _ _
 have hbW : Below w.heap.size w W := by rw [hW]; exact ((Below.refl _ _).alloc (Nat.le_refl _) _).alloc (by simp) _
 have hsz : W.heap.size = w.heap.size + 2 := by rw [hW]; simp
 go_enter Tryz.func36, Tryz.ntmps36
 go_upto_region 1 with fail
 rw [← hW];clear hW
 go_upto_region 4 with (first | refine load_sec rfl (.tmp 1) rfl w.heap.size rfl s hl hg1 ?_ | (go_at_call 52; refine (hg _).mono ?_; rintro e w9 ⟨rfl, hb9⟩))
 have hg1' : w9.heap[w.heap.size]? = some (.cells (SA s) 36 (0, 0)) := by rw [hb9.block _ (by omega)]; exact hg1
 have hg2' : w9.heap[w.heap.size + 1]? = some (.cells #[.int .i64 0, .string ⟨#[]⟩] 82 (0, 0)) := by rw [hb9.block _ (by omega)]; exact hg2
 have hbW' : Below w.heap.size w w9 := btr hbW hb9 (by omega)
 have hz9 : w.heap.size + 2 ≤ w9.heap.size := by have := hb9.size; omega
 clear hg1 hg2 hbW hsz hb9 hg;obtain ⟨W, hW⟩ : ∃ x, x = w9 := ⟨_, rfl⟩;subst hW;obtain ⟨B, hB⟩ : ∃ x, x = W.heap.size := ⟨_, rfl⟩;have hg1 := hg1';clear hg1'
 go_cut [5] (fun x wc => ∃ g : Nat, x = .pointer (some ⟨g, 0, none⟩) ∧ Hid (B ≤ g ∧ wc.heap[g]? = some (.cells #[.int .i64 AA, .string NN] 82 (0, 0)) ∧ Below B W wc))
 case first =>
   refine wp_region_noPanic ?_;refine wp_region_held_drew (S := fun w' => w'.heap[w.heap.size]? = some (.cells (SA s) 36 (0, 0))) (by kernel_rfl) (hg1) (fun hHeld => ?_);have b0 : Below B W W.drew := below_drew (Below.refl _ _)
   have z0 : B ≤ W.drew.heap.size := by rw [hB]; exact Nat.le_refl _
   refine takeSec 0 13 (.tmp 1) w.heap.size s hs.1 rfl (by kernel_rfl) (by kernel_rfl) (by kernel_rfl) rfl rfl rfl (by rfl) (fun _ _ _ h => h) hHeld (fun _ h => h) ?_;simp only [sS];refine tV 2 15 (.int .i64 (K : Int)) rfl (by kernel_rfl) rfl (by rfl) hHeld (fun _ hw' => rfl) ?_;simp only [sS];refine tV 3 16 (.int .i64 (5 + (K : Int))) rfl (by kernel_rfl) rfl (by rfl) hHeld (fun _ hw' => by go_simp; exact IntWalk.i64_in _ (by omega)) ?_;simp only [sS];refine tV 4 17 (.slice (some ⟨w.heap.size, 5, none⟩) K 123) rfl (by kernel_rfl) rfl (by rfl) hHeld (fun _ hw' => by have f1 := F1; have f2 := F2; go_simp; omega) ?_;simp only [sS];refine tV 5 18 (.string NN) rfl (by kernel_rfl) rfl (by rfl) hHeld (fun _ hw' => by have hcv := HCV.out _ hw'; go_simp) ?_;simp only [sS];refine step2 1 7 (by kernel_rfl) ?_ ?_
   ·refine stCall 1 14 52 #[.agg (SA s), .int .i64 0, .int .i64 4] _ rfl rfl (by rfl) (by go_simp) (HGA.out _) ?_
    rintro e w1c ⟨rfl, hb1c⟩
    have b1c : Below B W w1c := btr b0 hb1c (by have := b0.size; omega)
    have z1c : B ≤ w1c.heap.size := by have := b1c.size; omega
    have hHeld : w1c.heap[w.heap.size]? = some (.cells (SA s) 36 (0, 0)) := by rw [b1c.block _ (by omega)]; exact hg1
    refine ⟨_, rfl, hHeld, ?_⟩;simp only [sS];refine tV 6 19 (.agg #[.int .i64 AA, .string NN]) rfl (by kernel_rfl) rfl (by rfl) hHeld (fun _ hw' => by go_simp) ?_;simp only [sS];refine step1 7 (by kernel_rfl) ?_;refine stNew 7 5 (.pointer (some ⟨w1c.heap.size, 0, none⟩)) (.cells #[.int .i64 0, .string ⟨#[]⟩] 82) rfl rfl (by rfl) (by go_simp) ?_;have b2a : Below B W (w1c.alloc (.cells #[.int .i64 0, .string ⟨#[]⟩] 82)) := b1c.alloc (by have := b1c.size; omega) _
    have p2a : B ≤ w1c.heap.size := by have := b1c.size; omega
    have q2a : (w1c.alloc (.cells #[.int .i64 0, .string ⟨#[]⟩] 82)).heap[w1c.heap.size]? = some (.cells #[.int .i64 0, .string ⟨#[]⟩] 82 (0, 0)) := heap_alloc_new _ _
    have hHeld : (w1c.alloc (.cells #[.int .i64 0, .string ⟨#[]⟩] 82)).heap[w.heap.size]? = some (.cells (SA s) 36 (0, 0)) := by rw [b2a.block _ (by omega)]; exact hg1
    refine ⟨hHeld, ?_⟩;simp only [sS];refine step1 8 (by kernel_rfl) ?_;refine stStoreR 8 82 (.tmp 5) (.tmp 19) (w1c.heap.size) #[.int .i64 AA, .string NN] 82 #[.int .i64 0, .string ⟨#[]⟩] rfl rfl (by rfl) rfl rfl rfl q2a (by kernel_rfl) rfl (by simp [Value.oneCell']) ?_
    intro wT hT
    have bT := hT.below b2a (by omega);refine ⟨by rw [bT.block _ (by omega)]; exact hg1, ?_⟩;refine wpAnyH_done (by kernel_rfl) ?_ _;refine NoPanic.normal ?_;clear hHeld;have hP := hid (And.intro (show B ≤ w1c.heap.size by omega) (And.intro hT.here bT))
    go_wp2_with fail
    go_meet
    case rel => exact ⟨_, rfl, hP⟩
   ·refine stNew 7 5 (.pointer (some ⟨W.drew.heap.size, 0, none⟩)) (.cells #[.int .i64 0, .string ⟨#[]⟩] 82) rfl rfl (by rfl) (by go_simp) ?_
    have b3a : Below B W (W.drew.alloc (.cells #[.int .i64 0, .string ⟨#[]⟩] 82)) := b0.alloc (by have := b0.size; omega) _
    have p3a : B ≤ W.drew.heap.size := by have := b0.size; omega
    have q3a : (W.drew.alloc (.cells #[.int .i64 0, .string ⟨#[]⟩] 82)).heap[W.drew.heap.size]? = some (.cells #[.int .i64 0, .string ⟨#[]⟩] 82 (0, 0)) := heap_alloc_new _ _
    have hHeld : (W.drew.alloc (.cells #[.int .i64 0, .string ⟨#[]⟩] 82)).heap[w.heap.size]? = some (.cells (SA s) 36 (0, 0)) := by rw [b3a.block _ (by omega)]; exact hg1
    refine ⟨hHeld, ?_⟩;simp only [sS];refine step1 1 (by kernel_rfl) ?_;refine stCall 1 14 52 #[.agg (SA s), .int .i64 0, .int .i64 4] _ rfl rfl (by rfl) (by go_simp) (HGA.out _) ?_
    rintro e w4c ⟨rfl, hb4c⟩
    have b4c : Below B W w4c := btr b3a hb4c (by have := b3a.size; omega)
    have z4c : B ≤ w4c.heap.size := by have := b4c.size; omega
    have hHeld : w4c.heap[w.heap.size]? = some (.cells (SA s) 36 (0, 0)) := by rw [b4c.block _ (by omega)]; exact hg1
    have q4c : w4c.heap[W.drew.heap.size]? = some (.cells #[.int .i64 0, .string ⟨#[]⟩] 82 (0, 0)) := by rw [hb4c.block _ (slt q3a)]; exact q3a
    refine ⟨_, rfl, hHeld, ?_⟩;simp only [sS];refine tV 6 19 (.agg #[.int .i64 AA, .string NN]) rfl (by kernel_rfl) rfl (by rfl) hHeld (fun _ hw' => by go_simp) ?_;simp only [sS];refine step1 8 (by kernel_rfl) ?_;refine stStoreR 8 82 (.tmp 5) (.tmp 19) (W.drew.heap.size) #[.int .i64 AA, .string NN] 82 #[.int .i64 0, .string ⟨#[]⟩] rfl rfl (by rfl) rfl rfl rfl q4c (by kernel_rfl) rfl (by simp [Value.oneCell']) ?_
    intro wT hT
    have bT := hT.below b4c (by omega);refine ⟨by rw [bT.block _ (by omega)]; exact hg1, ?_⟩;refine wpAnyH_done (by kernel_rfl) ?_ _;refine NoPanic.normal ?_;clear hHeld;have hP := hid (And.intro (show B ≤ W.drew.heap.size by omega) (And.intro hT.here bT))
    go_wp2_with fail
    go_meet
    case rel => exact ⟨_, rfl, hP⟩
 case rest =>
  obtain ⟨g, rfl, HG⟩ := hcut;obtain ⟨hge, hgr, hbc⟩ := HG.out
  have h1 : wc.heap[w.heap.size]? = some (.cells (SA s) 36 (0, 0)) := by rw [hbc.block _ (by omega)]; exact hg1
  have h2 : wc.heap[w.heap.size + 1]? = some (.cells #[.int .i64 0, .string ⟨#[]⟩] 82 (0, 0)) := by rw [hbc.block _ (by omega)]; exact hg2'
  have hcw : Below w.heap.size w wc := btr hbW' hbc (by omega);have H1 := hid h1;have H2 := hid h2;have HR := hid hgr;have HC := hid hcw;have hgd := guard_sec;clear hg1 hg2' hbW' hB hgr h1 h2 hcw hbc HG HCV HGA
  cases SB
  ·have HV : Hid (rdSlot AA s = (0, ⟨#[]⟩, 63)) := by show _ = _; rw [hrd]; simp
   have hE : slotE AA NN = 63 := by simp [slotE, hSB]
   rw [hE] at hsup;have HLS := hid HSC.1;clear HSC
   go_wp2_with (first | refine load_R rfl 82 (.tmp 5) rfl g rfl 82 _ _ HR.out Tryz.underlying82 rfl (by kernel_rfl) ?_ | (go_at_call 67; refine (hsup _).mono ?_; rintro e w2 ⟨rfl, hb2⟩) | (refine store_sec rfl (.tmp 6) _ rfl w2.heap.size rfl _ rfl HLS.out Zs Zs_len (heap_alloc_new _ _) ?_; intro w3 hw3; obtain ⟨HA1, HA2, HAR, HAC⟩ := after_new (t := 82) hb2 hw3 H1.out H2.out HR.out HC.out) | (refine store_R rfl 82 (.tmp 2) _ rfl (w.heap.size + 1) _ rfl rfl 82 _ HA2.out (by kernel_rfl) rfl (by simp [Value.oneCell']) ?_; intro w4 hw4))
   rw [HV.out]
   exact bodyPost_ret (v := .tuple #[.agg (SLA 0 ⟨#[]⟩), .int .i64 63]) (results_R Tryz.results36 _ _ (w.heap.size + 1) _ 82 _ _ Tryz.underlying82 rfl (by kernel_rfl) rfl rfl hw4.here) rfl ⟨rfl, hw4.below HAC.out (by omega)⟩
  ·have hE : slotE AA NN = 0 := by simp [slotE, hSB]
   rw [hE] at hsup
   by_cases hq : SX = s
   ·have HV : Hid (rdSlot AA s = (AA, NN, 0)) := by show _ = _; rw [hrd]; simp [hq]
    have heq : ∀ w', (Op.equalIn 10000 36 (.agg (SA SX)) (.agg (SA s))).run Tryz.prog w' = .ok true w' := fun w' => by rw [eq_sec _ _ HSC.1 hl, decide_eq_true hq]
    have HLS := hid HSC.1;clear hq HSC
    go_wp2_with (first | refine load_R rfl 82 (.tmp 5) rfl g rfl 82 _ _ HR.out Tryz.underlying82 rfl (by kernel_rfl) ?_ | (go_at_call 67; refine (hsup _).mono ?_; rintro e w2 ⟨rfl, hb2⟩) | (refine store_sec rfl (.tmp 6) _ rfl w2.heap.size rfl _ rfl HLS.out Zs Zs_len (heap_alloc_new _ _) ?_; intro w3 hw3; obtain ⟨HA1, HA2, HAR, HAC⟩ := after_new (t := 82) hb2 hw3 H1.out H2.out HR.out HC.out) | refine load_sec_g (.tmp 6) rfl w2.heap.size rfl _ HLS.out hw3.here rfl ?_ | refine load_sec_g (.tmp 1) rfl w.heap.size rfl s hl HA1.out rfl ?_ | refine load_R rfl 82 (.tmp 5) rfl g rfl 82 _ _ HAR.out Tryz.underlying82 rfl (by kernel_rfl) ?_ | (refine store_R rfl 82 (.tmp 2) _ rfl (w.heap.size + 1) _ rfl rfl 82 _ HA2.out (by kernel_rfl) rfl (by simp [Value.oneCell']) ?_; intro w4 hw4))
    rw [HV.out]
    exact bodyPost_ret (v := .tuple #[.agg (SLA AA NN), .int .i64 0]) (results_R Tryz.results36 _ _ (w.heap.size + 1) _ 82 _ _ Tryz.underlying82 rfl (by kernel_rfl) rfl rfl hw4.here) rfl ⟨rfl, hw4.below HAC.out (by omega)⟩
   ·have HV : Hid (rdSlot AA s = (0, ⟨#[]⟩, 63)) := by show _ = _; rw [hrd]; simp [hq]
    have heq : ∀ w', (Op.equalIn 10000 36 (.agg (SA SX)) (.agg (SA s))).run Tryz.prog w' = .ok false w' := fun w' => by rw [eq_sec _ _ HSC.1 hl, decide_eq_false hq]
    have HLS := hid HSC.1;clear hq HSC
    go_wp2_with (first | refine load_R rfl 82 (.tmp 5) rfl g rfl 82 _ _ HR.out Tryz.underlying82 rfl (by kernel_rfl) ?_ | (go_at_call 67; refine (hsup _).mono ?_; rintro e w2 ⟨rfl, hb2⟩) | (refine store_sec rfl (.tmp 6) _ rfl w2.heap.size rfl _ rfl HLS.out Zs Zs_len (heap_alloc_new _ _) ?_; intro w3 hw3; obtain ⟨HA1, HA2, HAR, HAC⟩ := after_new (t := 82) hb2 hw3 H1.out H2.out HR.out HC.out) | refine load_sec_g (.tmp 6) rfl w2.heap.size rfl _ HLS.out hw3.here rfl ?_ | refine load_sec_g (.tmp 1) rfl w.heap.size rfl s hl HA1.out rfl ?_ | (refine store_R rfl 82 (.tmp 2) _ rfl (w.heap.size + 1) _ rfl rfl 82 _ HA2.out (by kernel_rfl) rfl (by simp [Value.oneCell']) ?_; intro w4 hw4))
    rw [HV.out]
    exact bodyPost_ret (v := .tuple #[.agg (SLA 0 ⟨#[]⟩), .int .i64 63]) (results_R Tryz.results36 _ _ (w.heap.size + 1) _ 82 _ _ Tryz.underlying82 rfl (by kernel_rfl) rfl rfl hw4.here) rfl ⟨rfl, hw4.below HAC.out (by omega)⟩

theorem readSlot_any (s : List Int) (hs : IsSec s) (hH : szOf s ≤ 40 → Has (nameOf s)) (w : World) :
  Calls Tryz.prog 36 #[.agg (SA s)] w fun e w' => e = .returned (.tuple #[.agg (SLA (rdSlot (getV s 0 4) s).1 (rdSlot (getV s 0 4) s).2.1), .int .i64 (rdSlot (getV s 0 4) s).2.2]) ∧ Below w.heap.size w w' := by
 by_cases hK : szOf s ≤ 40
 ·exact readSlot_short s hs hK (hH hK) w
 ·rw [show rdSlot (getV s 0 4) s = (0, ⟨#[]⟩, 63) by unfold rdSlot; simp [hK]]
  exact readSlot_long s hs hK w

end Go.Proofs.YtpmignilhoihnabGreat
