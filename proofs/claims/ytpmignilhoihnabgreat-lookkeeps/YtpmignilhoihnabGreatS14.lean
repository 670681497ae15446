/-
 Is an image well-formed: what the document's Well has in memory.
-/
import Derived.Test.YtpmignilhoihnabGreatS12
import Derived.Test.YtpmignilhoihnabGreatL3
import Derived.Test.YtpmignilhoihnabGreatLF2
import Derived.Test.YtpmignilhoihnabGreatX2
namespace Go.Proofs.YtpmignilhoihnabGreat
open Go.RowKit Go.Shelf

structure NF (w0 : World) (c : SC) (sn : Int → Bool) (n : Nat) (f : Nat → List Int) : Prop where
 nn : n = c.M + 1
 n5 : n ≤ 5000
 ff : ∀ i : Nat, 1 ≤ i → i ≤ c.M → f i = zI c.im (i : Int)
 d : ∀ i : Int, 1 ≤ i → i ≤ c.M → kd c.im i = 2 → InoOk c (zI c.im i) ∧ slotsI c.im i = slB c.im (zI c.im i) (cntZ (zI c.im i)).toNat
 l : ∀ i : Int, 1 ≤ i → i ≤ c.M → kd c.im i = 2 → (slotsI c.im i).length ≤ 1068
 s : IsS w0 c sn
 ii : InAt w0 c.ib n f
def Dirs (c : SC) (i : Nat) : Prop := ∀ d : Int, 1 ≤ d → d < i → kd c.im d = 2 → DirOk c.M c.im d
def NR1 (w : World) (c : SC) (sn : Int → Bool) (n rb : Nat) (f : Nat → List Int) (x5 x7 : Value) (wr : World) : Prop :=
 ∃ (mo : Bool) (tb : Nat) (tm : Int → Int) (R : Int → Bool), x5 = .slice (some ⟨tb, 0, none⟩) n n ∧ x7 = .bool mo ∧ Hid (NW w wr c sn n tb rb f tm R) ∧ Hid (R 1 = true ∧ ∀ j : Int, R j = true → Rch c.M c.im j) ∧ Hid (mo = false → Dirs c n ∧ ∃ R0, NI c.M c.im R0 (pairsN c.im c.M) tm R false)
def NR2 (w : World) (c : SC) (sn : Int → Bool) (n tb rb : Nat) (f : Nat → List Int) (R0 : Int → Bool) (x7 x8 : Value) (wr : World) : Prop :=
 ∃ (mo : Bool) (i : Nat) (tm : Int → Int) (R : Int → Bool), x7 = .bool mo ∧ x8 = .int .i64 i ∧ 1 ≤ i ∧ i ≤ n ∧ Hid (NW w wr c sn n tb rb f tm R) ∧ Hid (NI c.M c.im R0 (pairsN c.im (i - 1)) tm R mo) ∧ Hid (Dirs c i)
def NR3 (w : World) (c : SC) (sn : Int → Bool) (n tb rb : Nat) (f : Nat → List Int) (R0 : Int → Bool) (i : Nat) (a : Option Addr) (l : List (Int × ByteArray)) (x7 x11 : Value) (wr : World) : Prop :=
 ∃ (mo : Bool) (k : Nat) (tm : Int → Int) (R : Int → Bool), x7 = .bool mo ∧ x11 = .int .i64 k ∧ k ≤ l.length ∧ Hid (NW w wr c sn n tb rb f tm R) ∧ Hid (NI c.M c.im R0 (pairsN c.im (i - 1) ++ pairsI (i : Int) (l.take k)) tm R mo) ∧ Hid (SlAt wr a l) ∧
  Hid (∀ y ∈ l.take k, 2 ≤ y.1 ∧ y.1 ≤ c.M ∧ kd c.im y.1 ≠ 0) ∧ Hid ((l.take k).Pairwise fun a b => a.2.data ≠ b.2.data)
theorem named_no {c : SC} {n : Nat} {w w' : World} (hc : Chg w w' No) {i : Nat} (h1 : 1 ≤ i) (h2 : i ≤ c.M) (h3 : kd c.im (i : Int) = 2) (h4 : ¬ DirOk c.M c.im (i : Int)) : NamedPost c.M c.im n w (.returned (.tuple #[.slice none 0 0, .slice none 0 0, .bool false])) w' :=
 ⟨hc, .inr ⟨⟨(i : Int), by omega, by omega, h3, h4⟩, rfl⟩⟩
theorem pairs_next {c : SC} {i : Nat} (h1 : 1 ≤ i) : pairsN c.im i = pairsN c.im (i - 1) ++ dirP c.im (i : Int) := by
 obtain ⟨k, rfl⟩ : ∃ k, i = k + 1 := ⟨i - 1, by omega⟩
 rfl

set_option maxHeartbeats 4000000 in
set_option maxRecDepth 100000 in
theorem named_any {c : SC} {sn : Int → Bool} (n : Nat) (f : Nat → List Int) (w : World) (h : NF w c sn n f) :
  Calls Tryz.prog 23 #[.pointer (some ⟨c.p, 0, none⟩)] w (NamedPost c.M c.im n w) := by
 have hmI := make_ints n h.n5;have hmB := make_bools n h.n5;have HC4 : Hid (∀ W, Chg w W No → W.cell? ⟨c.p, 4, none⟩ = some (.slice (some ⟨c.ib, 0, none⟩) n c.jc)) := hid (fun W hW => by rw [h.nn]; exact (h.s.call hW).c4);have c4 := HC4.out w (Chg.refl _ _);have c4a := HC4.out _ (Chg.alloc w (.cells (TA n) 3) No)
 have n1 : (1 : Int) < (n : Int) := by have := h.nn; have := h.s.m1; omega
 have n5 : (n : Int) ≤ 5000 := by have := h.n5; omega
 have HF := hid h;clear h
 go_enter Tryz.func23, Tryz.ntmps23
 go_upto_region 3 with fail
 obtain ⟨W1, hW1⟩ : ∃ x, x = w.alloc (.cells (TA n) 3) := ⟨_, rfl⟩
 have hr0 : Chg w (W1.alloc (.cells (UA n) 4)) No := by rw [hW1]; exact (Chg.alloc _ _ No).trans (Chg.alloc _ _ No) (fun _ _ e => e) (fun _ _ e => e)
 have HW2 : Hid (NW w (W1.alloc (.cells (UA n) 4)) c sn n w.heap.size W1.heap.size f (fun _ => 0) (fun _ => false)) := hid
  ⟨HF.out.s, HF.out.ii, hr0, (by have := nat_made w n; rw [← hW1] at this; exact this.keep (Chg.alloc W1 _ No) (fun e => e)), bat_made W1 n, Nat.le_refl _, (by rw [hW1]; simp)⟩
 have hsz : W1.heap.size = w.heap.size + 1 := by rw [hW1]; simp
 rw [← hW1, ← hsz];obtain ⟨rb, hrb⟩ : ∃ x, x = W1.heap.size := ⟨_, rfl⟩;rw [← hrb] at HW2 ⊢
 generalize W1.alloc (.cells (UA n) 4) = W2 at *
 obtain ⟨d1, d2⟩ := HW2.out.r.cell (k := 1) (by omega);have HW3 : Hid (NW w (W2.setCell ⟨rb, 1, none⟩ (.bool true)) c sn n w.heap.size rb f (fun _ => 0) (putC (fun _ => false) 1)) := hid (HW2.out.putR (k := 1) (by omega));clear hW1 hsz hrb hr0 c4a
 go_wp2_with fail
 go_loopw [5, 7] (fun x5 x7 wr => NR1 w c sn n rb f x5 x7 wr) (fun _ x7 wr => meas wr rb c.M x7)
 case atStart =>
  exact ⟨true, w.heap.size, _, _, rfl, rfl, HW3, hid ⟨by simp [putC], fun j hj => (by
   have : j = 1 := by simpa [putC] using hj
   subst this
   exact .root)⟩, hid (fun e => by cases e)⟩
 case round =>
  obtain ⟨mo, tb0, tm0, R0, rfl, rfl, HW, HR, HX⟩ := hrel;clear HW2 HW3 d1 d2 c4;obtain ⟨wo, hwo⟩ : ∃ x : World, x = wr := ⟨_, rfl⟩;rw [← hwo] at HW ⊢;clear hwo wr
  cases mo
  ·go_wp2_with fail
   go_ret3
   obtain ⟨hd, R0', hN⟩ := HX.out (by simp);obtain ⟨t1, t2⟩ := hN.done
   exact ⟨HW.out.ch, .inl ⟨tb0, rb, tm0, R0, rfl, HW.out.t, HW.out.r, fun i h1 h2 hk => hd i h1 (by have := HF.out.nn; omega) hk, t1, t2⟩⟩
  ·have c4 := HC4.out wo HW.out.ch
   have HWt : Hid (NW w (wo.alloc (.cells (TA n) 3)) c sn n wo.heap.size rb f (fun _ => 0) R0) := hid (by
    have hs := HW.out.step (Chg.alloc wo (.cells (TA n) 3) No)
    exact ⟨hs.s, hs.i, hs.ch, nat_made wo n, hs.r, Nat.le_trans (Nat.le_refl _) HW.out.ch.size, hs.rn⟩)
   obtain ⟨tb, htb⟩ : ∃ x, x = wo.heap.size := ⟨_, rfl⟩;have HRo := hid HW.out.r
   go_wp2_with fail
   rw [← htb] at HWt ⊢;clear htb c4
   go_loopw [7, 8] (fun x7 x8 wr => NR2 w c sn n tb rb f R0 x7 x8 wr) (fun _ x8 _ => n - (intOf x8).toNat)
   case atStart => exact ⟨false, 1, _, _, rfl, rfl, by omega, by omega, HWt, hid (NI.begin HR.out.1 HR.out.2), hid (fun d h1 h2 => by omega)⟩
   case round =>
    obtain ⟨mo, i, tm, R, rfl, rfl, hi1, hi2, HW2, HN, HD⟩ := hrel;clear HWt;have c4 := HC4.out wr HW2.out.ch
    by_cases hlt : i < n
    ·have i0 : (0 : Int) ≤ (i : Int) := by omega
     have i1 : (i : Int) < (n : Int) := by omega
     have HiM : Hid (i ≤ c.M) := hid (by have := HF.out.nn; omega);have q0 := HW2.out.ino.cell0 hlt;have HPx := hid (pairs_next (c := c) hi1);have HFi := hid (HF.out.ff i hi1 HiM.out);have HRg := hid (HW2.out.ino.range hlt (by rw [HFi.out]; exact zI_len _ _));rw [HFi.out] at q0 HRg
     by_cases hk : kd c.im (i : Int) = 2
     ·unfold kd at hk
      rw [hk] at q0;have HK : Hid (kd c.im (i : Int) = 2) := hid hk;clear hk;obtain ⟨hIno, hSl⟩ := HF.out.d (i : Int) (by omega) (by have := HiM.out; omega) HK.out;obtain ⟨z, hz⟩ : ∃ z, z = zI c.im (i : Int) := ⟨_, rfl⟩;have HZl : Hid (z.length = 18) := hid (by rw [hz]; exact zI_len _ _)
      by_cases hE : ∀ x ∈ slotsI c.im (i : Int), errAt c.im x = 0
      ·have HSY := hid (fun W hW => slots_yes (sn := sn) (i : Int) hIno hSl W hW hE)
       obtain ⟨l, hl⟩ : ∃ l, l = liveL c.im (slotsI c.im (i : Int)) := ⟨_, rfl⟩
       have HLn : Hid (l.length ≤ 1068) := hid (by
        have h1 := HF.out.l (i : Int) (by omega) (by have := HiM.out; omega) HK.out;have h2 := liveL_len c.im (slotsI c.im (i : Int))
        rw [hl]; omega)
       obtain ⟨m, hm⟩ : ∃ m, m = l.length := ⟨_, rfl⟩;rw [← hl, ← hz, ← hm] at HSY;rw [← hz] at HRg;have HLl := hid hl;have HM := hid hm
       have hm2 : (m : Int) ≤ 1068 := by have := HLn.out; omega
       have HE := hid hE
       have HPl : Hid ((pairsN c.im (i - 1)).length ≤ 5340000) := hid (by
        have := pairsN_len HF.out.l (i - 1) (by have := HiM.out; omega);have := HF.out.nn
        omega)
       clear hl hm hz hIno hSl hE
       go_wp2_with (first
        | (refine load_mid 39 _ rfl c.ib (i * 18) rfl _ _ HRg.out Tryz.underlying39 rfl (by rw [szI, List.length_map, HZl.out]) (by rfl) ?_)
        | (go_at_call 46; go_must (refine (HSY.out wr HW2.out.is).mono ?_; rintro e w3 ⟨a, cap, rfl, hA3, hc3⟩))
        | fail)
       have HW3 := hid (HW2.out.step hc3);have HA3 := hid hA3;clear hA3 hc3 HRg q0 c4 HSY HW2
       go_loopw [7, 11] (fun x7 x11 wr => NR3 w c sn n tb rb f R0 i a l x7 x11 wr) (fun _ x11 _ => m - (intOf x11).toNat)
       case atStart => exact ⟨mo, 0, tm, R, rfl, rfl, by omega, HW3, hid (by simpa [pairsI] using HN.out), HA3, hid (fun y hy => by simp at hy), hid (by simp)⟩
       case round =>
        clear HW3 HA3 HN;obtain ⟨mo3, k, tm3, R3, rfl, rfl, hk, HW, HN, HS, HI, HP⟩ := hrel;rw [← HM.out] at hk;obtain ⟨wi, hwi⟩ : ∃ x : World, x = wr := ⟨_, rfl⟩;rw [← hwi] at HW HS ⊢;clear hwi wr
        by_cases hlt2 : k < m
        ·have k0 : (0 : Int) ≤ (k : Int) := by omega
         have k1 : (k : Int) < (m : Int) := by omega
         obtain ⟨y, hy⟩ : ∃ y, l[k]? = some y := ⟨_, List.getElem?_eq_getElem (by rw [← HM.out]; exact hlt2)⟩;obtain ⟨yi, nm⟩ := y;have HMem : Hid ((yi, nm) ∈ liveL c.im (slotsI c.im (i : Int))) := hid (by rw [← HLl.out]; exact List.mem_of_getElem? hy);have HTk : Hid (l.take (k + 1) = l.take k ++ [(yi, nm)]) := hid (by rw [List.take_add_one, hy]; rfl);have HY := hid hy
         obtain ⟨g, rfl, hcl⟩ : ∃ g, a = some ⟨g, 0, none⟩ ∧ ∀ (k : Nat) x, l[k]? = some x → wi.cell? ⟨g, k * 2, none⟩ = some (.int .i64 x.1) ∧ wi.cell? ⟨g, k * 2 + 1, none⟩ = some (.string x.2) := by
          rcases HS.out with h0 | ⟨g, e, _, hc⟩
          ·rw [h0] at hy; simp at hy
          ·exact ⟨g, e, hc⟩
         have q1 := (hcl k _ hy).1;have c4 := HC4.out wi HW.out.ch;clear hy hcl
         by_cases c1 : yi < 2
         ·have d1 : decide (yi < 2) = true := decide_eq_true c1
          go_wp2_with fail
          go_quiet (fail)
          go_wp2_with fail
          go_ret3
          exact named_no ⟨HW.out.ch.os, HW.out.ch.tape, HW.out.ch.output, HW.out.ch.size, HW.out.ch.block⟩ hi1 HiM.out HK.out fun q => by
           have := (q.ino _ HMem.out).1
           simp at this
           omega
         ·have d1 : decide (yi < 2) = false := decide_eq_false c1
          by_cases c2 : (n : Int) ≤ yi
          ·have d2 : decide ((n : Int) ≤ yi) = true := decide_eq_true c2
           go_wp2_with fail
           go_quiet (fail)
           go_wp2_with fail
           go_ret3
           exact named_no ⟨HW.out.ch.os, HW.out.ch.tape, HW.out.ch.output, HW.out.ch.size, HW.out.ch.block⟩ hi1 HiM.out HK.out fun q => by
            have h1 := (q.ino _ HMem.out).2.1;have h2 := HF.out.nn
            simp at h1
            omega
          ·have d2 : decide ((n : Int) ≤ yi) = false := decide_eq_false c2
           have y0 : (0 : Int) ≤ yi := by omega
           have y1 : yi < (n : Int) := by omega
           have HyM : Hid (yi ≤ c.M) := hid (by have := HF.out.nn; omega)
           have hjn : yi.toNat < n := by omega
           have hjy : ((yi.toNat : Nat) : Int) = yi := by omega
           have q3 := HW.out.ino.cell0 hjn
           have HKd : Hid ((f yi.toNat).getD 0 0 = kd c.im yi) := hid (by
            rw [HF.out.ff yi.toNat (by omega) (by have := HyM.out; omega), hjy]
            rfl)
           rw [HKd.out] at q3;obtain ⟨kv, hkv⟩ : ∃ x, x = kd c.im yi := ⟨_, rfl⟩;rw [← hkv] at q3;have HKv := hid hkv;clear hkv HKd hjn hjy
           by_cases c3 : kv = 0
           ·have d3 : (kv == 0) = true := by rw [c3]; rfl
            have HC3 := hid c3;clear c3
            go_wp2_with fail
            go_quiet (fail)
            go_wp2_with fail
            go_ret3
            exact named_no ⟨HW.out.ch.os, HW.out.ch.tape, HW.out.ch.output, HW.out.ch.size, HW.out.ch.block⟩ hi1 HiM.out HK.out fun q => (q.ino _ HMem.out).2.2 (by rw [← HKv.out]; exact HC3.out)
           ·have d3 : (kv == 0) = false := beq_eq_false_iff_ne.2 c3
            have HC3 := hid c3;clear c3
            go_wp2_with fail
            go_quiet (fail)
            clear d3 q3
            go_wp2_with fail
            go_loopw [12] (fun x12 wr => ∃ j : Nat, j ≤ k ∧ x12 = .int .i64 j ∧ Hid (Chg wi wr No) ∧ Hid (∀ j' y', j' < j → l[j']? = some y' → y'.2.data ≠ nm.data)) (fun x12 _ => k - (intOf x12).toNat)
            case atStart => exact ⟨0, by omega, rfl, hid ⟨rfl, rfl, rfl, Nat.le_refl _, fun _ _ _ => rfl⟩, hid (fun _ _ h _ => by omega)⟩
            case round =>
             obtain ⟨j, hj, rfl, HC, HNe⟩ := hrel;clear q1 c4;have HSr := hid (HS.out.keep HC.out (fun _ _ _ e => e));have HWr := hid (HW.out.step HC.out)
             obtain ⟨hcl, HSAt⟩ : (∀ (k : Nat) x, l[k]? = some x → wr.cell? ⟨g, k * 2, none⟩ = some (.int .i64 x.1) ∧ wr.cell? ⟨g, k * 2 + 1, none⟩ = some (.string x.2)) ∧ True := by
              rcases HSr.out with h0 | ⟨g', e, _, hc⟩
              ·have := HY.out; rw [h0] at this; simp at this
              ·cases e
               exact ⟨hc, trivial⟩
             obtain ⟨q1, q2⟩ := hcl k _ HY.out
             simp only at q1 q2
             by_cases hjk : j < k
             ·have j0 : (0 : Int) ≤ (j : Int) := by omega
              have j1 : (j : Int) < (k : Int) := by omega
              have j2 : (j : Int) < (m : Int) := by omega
              obtain ⟨y2, hy2⟩ : ∃ y, l[j]? = some y := ⟨_, List.getElem?_eq_getElem (by rw [← HM.out]; omega)⟩;obtain ⟨r1, r2⟩ := hcl j _ hy2;obtain ⟨zi, nz⟩ := y2
              simp only at r1 r2
              have HY2 := hid hy2;clear hcl hy2
              cases e : (nz.toList == nm.toList)
              ·go_wp2_with fail
               go_quiet (fail)
               go_wp2_with fail
               exact ⟨⟨j + 1, by omega, by go_num, hid ⟨HC.out.os, HC.out.tape, HC.out.output, HC.out.size, HC.out.block⟩, hid (fun j' y' h1 h2 => by
                by_cases ej : j' = j
                ·subst ej
                 rw [HY2.out] at h2
                 cases h2
                 intro h3
                 have : nz.toList = nm.toList := by rw [ByteArray.toList_eq, ByteArray.toList_eq, h3]
                 rw [this] at e
                 simp at e
                ·exact HNe.out j' y' (by omega) h2)⟩, by simp [intOf]; omega⟩
              ·have HEq : Hid (nz.data = nm.data) := hid (by
                have := eq_of_beq e;rw [ByteArray.toList_eq, ByteArray.toList_eq] at this
                exact Array.ext' this)
               go_wp2_with fail
               go_quiet (fail)
               go_wp2_with fail
               go_ret3
               have hch := HWr.out.ch
               exact named_no ⟨hch.os, hch.tape, hch.output, hch.size, hch.block⟩ hi1 HiM.out HK.out fun q => by
                have hp := q.nam;rw [← HLl.out] at hp;obtain ⟨hb1, e1⟩ := List.getElem?_eq_some_iff.1 HY2.out;obtain ⟨hb2, e2⟩ := List.getElem?_eq_some_iff.1 HY.out;have := List.pairwise_iff_getElem.1 hp j k hb1 hb2 hjk;rw [e1, e2] at this
                exact this HEq.out
             ·have j1 : ¬ (j : Int) < (k : Int) := by omega
              obtain rfl : j = k := by omega
              clear hcl HSAt
              have hjn : yi.toNat < n := by omega
              have hjy : ((yi.toNat : Nat) : Int) = yi := by omega
              obtain ⟨t1, t2⟩ := HWr.out.t.cell hjn;rw [hjy] at t1
              have HTv : Hid (0 ≤ tm3 yi ∧ tm3 yi ≤ 6000000) := hid (by
               have h1 := HN.out.tm yi (by omega) HyM.out;have h2 := cntP_le (pairsN c.im (i - 1) ++ pairsI (i : Int) (l.take j)) yi;rw [List.length_append] at h2
               have h3 : (pairsI (i : Int) (l.take j)).length ≤ l.length := by
                unfold pairsI;rw [List.length_map, List.length_take]
                omega
               have := HPl.out;have := HLn.out
               omega)
              obtain ⟨tv, htv⟩ : ∃ x, x = tm3 yi := ⟨_, rfl⟩;rw [← htv] at t1 HTv;have HT := hid htv;obtain ⟨tv0, tv1⟩ := HTv.out;have HjY := hid hjy;have HjN := hid hjn
              have HPk : Hid (PairOk c.M c.im ((i : Int), yi)) := hid (by
               obtain ⟨x, hx, hx2, _⟩ := liveL_mem HMem.out
               exact ⟨by show (1 : Int) ≤ (i : Int); omega, by show (i : Int) ≤ c.M; have := HiM.out; omega, HK.out, ⟨x, hx, hx2⟩, by show 2 ≤ yi; omega, HyM.out⟩)
              clear hjy hjn htv
              go_upto_region 26 with fail
              obtain ⟨W5, hW5⟩ : ∃ x, x = wr.setCell ⟨tb, yi.toNat, none⟩ (.int .i64 (tv + 1)) := ⟨_, rfl⟩;rw [← hW5]
              have HW5 : Hid (NW w W5 c sn n tb rb f (putI tm3 yi (tm3 yi + 1)) R3) := hid (by
               have := HWr.out.putT HjN.out (tv + 1);rw [hW5, ← HT.out];rw [HjY.out] at this
               exact this)
              have HS5 : Hid (SlAt W5 (some ⟨g, 0, none⟩) l) := hid (by rw [hW5]; exact HSr.out.putT HWr.out);clear hW5 t1 t2 q1 q2;obtain ⟨u1, _⟩ := HW5.out.r.cell hlt;obtain ⟨u2, u3⟩ := HW5.out.r.cell HjN.out;rw [HjY.out] at u2
              have q1 : W5.cell? ⟨g, j * 2, none⟩ = some (.int .i64 yi) := by
               rcases HS5.out with h0 | ⟨g', e, _, hc⟩
               ·have := HY.out; rw [h0] at this; simp at this
               ·cases e
                exact (hc j _ HY.out).1
              have HIn : Hid (∀ y ∈ l.take (j + 1), 2 ≤ y.1 ∧ y.1 ≤ c.M ∧ kd c.im y.1 ≠ 0) := hid (fun y hy => by
               rw [HTk.out] at hy
               rcases List.mem_append.1 hy with h | h
               ·exact HI.out y h
               ·rw [List.mem_singleton.1 h]
                exact ⟨by show 2 ≤ yi; omega, HyM.out, by show kd c.im yi ≠ 0; rw [← HKv.out]; exact HC3.out⟩)
              have HPn : Hid ((l.take (j + 1)).Pairwise fun a b => a.2.data ≠ b.2.data) := hid (by
               rw [HTk.out];refine List.pairwise_append.2 ⟨HP.out, List.pairwise_singleton _ _, fun x hx y hy => ?_⟩;rw [List.mem_singleton.1 hy];obtain ⟨q, hq⟩ := List.getElem?_of_mem hx;rw [List.getElem?_take] at hq
               split at hq
               ·rename_i hlt9
                exact HNe.out q x hlt9 hq
               ·cases hq)
              have HPx3 : Hid (pairsN c.im (i - 1) ++ pairsI (i : Int) (l.take (j + 1)) = pairsN c.im (i - 1) ++ pairsI (i : Int) (l.take j) ++ [((i : Int), yi)]) := hid (by
               rw [HTk.out, List.append_assoc]
               simp [pairsI])
              clear HNe HI HP HC HW HS HSr HWr
              cases hRi : R3 (i : Int)
              ·rw [hRi] at u1
               have HNn : Hid (NI c.M c.im R0 (pairsN c.im (i - 1) ++ pairsI (i : Int) (l.take (j + 1))) (putI tm3 yi (tm3 yi + 1)) R3 mo3) := hid (by
                rw [HPx3.out]
                exact HN.out.step HPk.out (fun e => by rw [hRi] at e; cases e))
               go_wp2_with fail
               exact ⟨⟨mo3, j + 1, _, R3, rfl, by go_num, by have := HM.out; omega, HW5, HNn, HS5, HIn, HPn⟩, by simp [intOf]; omega⟩
              ·rw [hRi] at u1
               cases hRy : R3 yi
               ·rw [hRy] at u2
                have HNn : Hid (NI c.M c.im R0 (pairsN c.im (i - 1) ++ pairsI (i : Int) (l.take (j + 1))) (putI tm3 yi (tm3 yi + 1)) (putC R3 yi) true) := hid (by
                 rw [HPx3.out]
                 exact HN.out.reach HPk.out hRi hRy)
                have HW6 : Hid (NW w (W5.setCell ⟨rb, yi.toNat, none⟩ (.bool true)) c sn n tb rb f (putI tm3 yi (tm3 yi + 1)) (putC R3 yi)) := hid (by
                 have := HW5.out.putR HjN.out;rw [HjY.out] at this
                 exact this)
                have HS6 : Hid (SlAt (W5.setCell ⟨rb, yi.toNat, none⟩ (.bool true)) (some ⟨g, 0, none⟩) l) := hid (HS5.out.putR HW5.out)
                go_wp2_with fail
                exact ⟨⟨true, j + 1, _, _, rfl, by go_num, by have := HM.out; omega, HW6, HNn, HS6, HIn, HPn⟩, by simp [intOf]; omega⟩
               ·rw [hRy] at u2
                have HNn : Hid (NI c.M c.im R0 (pairsN c.im (i - 1) ++ pairsI (i : Int) (l.take (j + 1))) (putI tm3 yi (tm3 yi + 1)) R3 mo3) := hid (by
                 rw [HPx3.out]
                 exact HN.out.step HPk.out (fun _ => hRy))
                go_wp2_with fail
                exact ⟨⟨mo3, j + 1, _, R3, rfl, by go_num, by have := HM.out; omega, HW5, HNn, HS5, HIn, HPn⟩, by simp [intOf]; omega⟩
        ·have k1 : ¬ (k : Int) < (m : Int) := by omega
         obtain rfl : k = m := by omega
         go_wp2_with fail
         have ht : l.take k = l := List.take_of_length_le (by rw [← HM.out]; exact Nat.le_refl _);have hI := HI.out;have hP := HP.out;have hN := HN.out;rw [ht] at hI hP hN;refine ⟨⟨mo3, i + 1, tm3, R3, rfl, by go_num, by omega, by omega, HW, hid ?_, hid (fun d h1 h2 h3 => ?_)⟩, by simp [intOf]; omega⟩
         ·rw [show i + 1 - 1 = i by omega, HPx.out]
          unfold dirP;rw [if_pos HK.out, ← HLl.out]
          exact hN
         ·by_cases e : d = i
          ·subst e
           exact ⟨HE.out, by rw [← HLl.out]; exact hI, by rw [← HLl.out]; exact hP⟩
          ·exact HD.out d h1 (by omega) h3
      ·have HSN := hid (fun W hW => slots_no (sn := sn) (i : Int) hIno hSl W hW hE)
       rw [← hz] at HSN HRg;have HE := hid hE;clear hz hIno hSl hE
       go_wp2_with (first
        | (refine load_mid 39 _ rfl c.ib (i * 18) rfl _ _ HRg.out Tryz.underlying39 rfl (by rw [szI, List.length_map, HZl.out]) (by rfl) ?_)
        | (go_at_call 46; go_must (refine (HSN.out wr HW2.out.is).mono ?_; rintro e w3 ⟨rfl, hc3⟩))
        | fail)
       go_ret3
       exact named_no (HW2.out.ch.trans hc3 (fun _ _ e => e) (fun _ _ e => e)) hi1 HiM.out HK.out fun q => HE.out q.err
     ·have hk2 : ((zI c.im (i : Int)).getD 0 0 == 2) = false := beq_eq_false_iff_ne.2 hk
      have HP2 : Hid (pairsN c.im (i + 1 - 1) = pairsN c.im (i - 1)) := hid (by
       rw [show i + 1 - 1 = i by omega, HPx.out];unfold dirP
       rw [if_neg hk, List.append_nil])
      have HK : Hid (kd c.im (i : Int) ≠ 2) := hid hk;clear HRg hk
      generalize (zI c.im (i : Int)).getD 0 0 = y at *
      go_wp2_with fail
      exact ⟨⟨mo, i + 1, tm, R, rfl, by go_num, by omega, by omega, HW2, by rw [HP2.out]; exact HN, hid (fun d h1 h2 h3 => by
       by_cases e : d = i
       ·subst e; exact absurd h3 HK.out
       ·exact HD.out d h1 (by omega) h3)⟩, by simp [intOf]; omega⟩
    ·have i1 : ¬ (i : Int) < (n : Int) := by omega
     obtain rfl : i = n := by omega
     go_wp2_with fail
     have hnm : i - 1 = c.M := by have := HF.out.nn; omega
     refine ⟨⟨mo, tb, tm, R, rfl, rfl, HW2, hid ⟨HN.out.one, HN.out.rch⟩, hid (fun e => ?_)⟩, ?_⟩
     ·subst e
      have hN := HN.out;rw [hnm] at hN
      exact ⟨HD.out, R0, hN⟩
     ·exact meas_lt HRo.out HW2.out.r (by have := HF.out.nn; omega) HN.out.yes
end Go.Proofs.YtpmignilhoihnabGreat

namespace Go.Proofs.YtpmignilhoihnabGreat
open Go.RowKit

set_option maxRecDepth 100000 in
set_option maxHeartbeats 4000000 in
theorem rreadSuper_any (s : List Int) (hs : IsSec s) (w : World) :
  Calls Tryz.prog 9 #[.agg (SA s)] w fun e w' => e = .returned (.tuple #[.agg (SUA (rdSup (sayV s 4 4) (sayV s 8 4) s).1 (rdSup (sayV s 4 4) (sayV s 8 4) s).2.1), .int .i64 (rdSup (sayV s 4 4) (sayV s 8 4) s).2.2]) ∧ Below w.heap.size w w' := by
 have hz := zero_sec
 have hzs : ∀ w', (zeroValue 32).run Tryz.prog w' = .ok (.agg #[.int .i64 0, .int .i64 0]) w' := fun w' => by kernel_rfl
 have hbs : ∀ w', (Instr.build 32 #[]).run Tryz.prog w' = .ok (.agg #[.int .i64 0, .int .i64 0]) w' := fun w' => by kernel_rfl
 obtain ⟨W, hW⟩ : ∃ x, x = (w.alloc (.cells (SA s) 36)).alloc (.cells #[.int .i64 0, .int .i64 0] 32) := ⟨_, rfl⟩
 have hg1 : W.heap[w.heap.size]? = some (.cells (SA s) 36 (0, 0)) := by rw [hW]; exact heap_alloc2_old w _ _
 have hg2 : W.heap[w.heap.size + 1]? = some (.cells #[.int .i64 0, .int .i64 0] 32 (0, 0)) := by rw [hW]; exact heap_alloc2_new w _ _
 obtain ⟨B, hB⟩ : ∃ x, x = W.heap.size := ⟨_, rfl⟩
 have hB2 : B = w.heap.size + 2 := by rw [hB, hW]; simp
 have hbW : Below w.heap.size w W := by rw [hW]; exact ((Below.refl _ _).alloc (Nat.le_refl _) _).alloc (by simp) _
 go_enter Tryz.func9, Tryz.ntmps9
 go_upto_region 1 with fail
 rw [← hW]
 go_cut [4] (fun x wc => ∃ g : Nat, x = .pointer (some ⟨g, 0, none⟩) ∧ Hid (B ≤ g ∧ wc.heap[g]? = some (.cells #[.int .i64 (sayV s 4 4), .int .i64 (sayV s 8 4)] 32 (0, 0)) ∧ Below B W wc))
 case first =>
   refine wp_region_noPanic ?_;refine wp_region_held_drew (S := fun w' => w'.heap[w.heap.size]? = some (.cells (SA s) 36 (0, 0))) (by kernel_rfl) (hg1) (fun hH => ?_);have b0 : Below B W W.drew := below_drew (Below.refl _ _)
   have z0 : B ≤ W.drew.heap.size := by rw [hB]; exact Nat.le_refl _
   refine takeSec 0 7 (.tmp 1) w.heap.size s hs.1 rfl (by kernel_rfl) (by kernel_rfl) (by kernel_rfl) rfl rfl rfl (by rfl) (fun _ _ _ h => h) hH (fun _ h => h) ?_;simp only [sS];refine takeSec 2 9 (.tmp 1) w.heap.size s hs.1 rfl (by kernel_rfl) (by kernel_rfl) (by kernel_rfl) rfl rfl rfl (by rfl) (fun _ _ _ h => h) hH (fun _ h => h) ?_;simp only [sS];refine step2 1 5 (by kernel_rfl) ?_ ?_
   ·refine stCall 1 8 25 #[.agg (SA s), .int .i64 4, .int .i64 4] _ rfl rfl (by rfl) (by go_simp) (says_any s 4 4 _ hs (by decide) (by decide) (by decide) (by decide)) ?_
    rintro e w1c ⟨rfl, hb1c⟩
    have b1c : Below B W w1c := btr b0 hb1c (by have := b0.size; omega)
    have z1c : B ≤ w1c.heap.size := by have := b1c.size; omega
    have hH : w1c.heap[w.heap.size]? = some (.cells (SA s) 36 (0, 0)) := by rw [b1c.block _ (by omega)]; exact hg1
    refine ⟨_, rfl, hH, ?_⟩;simp only [sS];refine step2 3 5 (by kernel_rfl) ?_ ?_
    ·refine stCall 3 10 25 #[.agg (SA s), .int .i64 8, .int .i64 4] _ rfl rfl (by rfl) (by go_simp) (says_any s 8 4 _ hs (by decide) (by decide) (by decide) (by decide)) ?_
     rintro e w2c ⟨rfl, hb2c⟩
     have b2c : Below B W w2c := btr b1c hb2c (by have := b1c.size; omega)
     have z2c : B ≤ w2c.heap.size := by have := b2c.size; omega
     have hH : w2c.heap[w.heap.size]? = some (.cells (SA s) 36 (0, 0)) := by rw [b2c.block _ (by omega)]; exact hg1
     refine ⟨_, rfl, hH, ?_⟩;simp only [sS];refine tV 4 11 (.agg #[.int .i64 (sayV s 4 4), .int .i64 (sayV s 8 4)]) rfl (by kernel_rfl) rfl (by rfl) hH (fun _ hw' => by go_simp) ?_;simp only [sS];refine step1 5 (by kernel_rfl) ?_;refine stNew 5 4 (.pointer (some ⟨w2c.heap.size, 0, none⟩)) (.cells #[.int .i64 0, .int .i64 0] 32) rfl rfl (by rfl) (by go_simp) ?_;have b3a : Below B W (w2c.alloc (.cells #[.int .i64 0, .int .i64 0] 32)) := b2c.alloc (by have := b2c.size; omega) _
     have p3a : B ≤ w2c.heap.size := by have := b2c.size; omega
     have q3a : (w2c.alloc (.cells #[.int .i64 0, .int .i64 0] 32)).heap[w2c.heap.size]? = some (.cells #[.int .i64 0, .int .i64 0] 32 (0, 0)) := heap_alloc_new _ _
     have hH : (w2c.alloc (.cells #[.int .i64 0, .int .i64 0] 32)).heap[w.heap.size]? = some (.cells (SA s) 36 (0, 0)) := by rw [b3a.block _ (by omega)]; exact hg1
     refine ⟨hH, ?_⟩;simp only [sS];refine step1 6 (by kernel_rfl) ?_;refine stStoreR 6 32 (.tmp 4) (.tmp 11) (w2c.heap.size) #[.int .i64 (sayV s 4 4), .int .i64 (sayV s 8 4)] 32 #[.int .i64 0, .int .i64 0] rfl rfl (by rfl) rfl rfl rfl q3a (by rw [szS]; rfl) rfl (by simp [Value.oneCell']) ?_
     intro wT hT
     have bT := hT.below b3a (by omega);refine ⟨by rw [bT.block _ (by omega)]; exact hg1, ?_⟩;refine wpAnyH_done (by kernel_rfl) ?_ _;refine NoPanic.normal ?_;clear hH;have hP := hid (And.intro (show B ≤ w2c.heap.size by omega) (And.intro hT.here bT))
     go_wp2_with fail
     go_meet
     case rel => exact ⟨_, rfl, hP⟩
    ·refine stNew 5 4 (.pointer (some ⟨w1c.heap.size, 0, none⟩)) (.cells #[.int .i64 0, .int .i64 0] 32) rfl rfl (by rfl) (by go_simp) ?_
     have b4a : Below B W (w1c.alloc (.cells #[.int .i64 0, .int .i64 0] 32)) := b1c.alloc (by have := b1c.size; omega) _
     have p4a : B ≤ w1c.heap.size := by have := b1c.size; omega
     have q4a : (w1c.alloc (.cells #[.int .i64 0, .int .i64 0] 32)).heap[w1c.heap.size]? = some (.cells #[.int .i64 0, .int .i64 0] 32 (0, 0)) := heap_alloc_new _ _
     have hH : (w1c.alloc (.cells #[.int .i64 0, .int .i64 0] 32)).heap[w.heap.size]? = some (.cells (SA s) 36 (0, 0)) := by rw [b4a.block _ (by omega)]; exact hg1
     refine ⟨hH, ?_⟩;simp only [sS];refine step1 3 (by kernel_rfl) ?_;refine stCall 3 10 25 #[.agg (SA s), .int .i64 8, .int .i64 4] _ rfl rfl (by rfl) (by go_simp) (says_any s 8 4 _ hs (by decide) (by decide) (by decide) (by decide)) ?_
     rintro e w5c ⟨rfl, hb5c⟩
     have b5c : Below B W w5c := btr b4a hb5c (by have := b4a.size; omega)
     have z5c : B ≤ w5c.heap.size := by have := b5c.size; omega
     have hH : w5c.heap[w.heap.size]? = some (.cells (SA s) 36 (0, 0)) := by rw [b5c.block _ (by omega)]; exact hg1
     have q5c : w5c.heap[w1c.heap.size]? = some (.cells #[.int .i64 0, .int .i64 0] 32 (0, 0)) := by rw [hb5c.block _ (slt q4a)]; exact q4a
     refine ⟨_, rfl, hH, ?_⟩;simp only [sS];refine tV 4 11 (.agg #[.int .i64 (sayV s 4 4), .int .i64 (sayV s 8 4)]) rfl (by kernel_rfl) rfl (by rfl) hH (fun _ hw' => by go_simp) ?_;simp only [sS];refine step1 6 (by kernel_rfl) ?_;refine stStoreR 6 32 (.tmp 4) (.tmp 11) (w1c.heap.size) #[.int .i64 (sayV s 4 4), .int .i64 (sayV s 8 4)] 32 #[.int .i64 0, .int .i64 0] rfl rfl (by rfl) rfl rfl rfl q5c (by rw [szS]; rfl) rfl (by simp [Value.oneCell']) ?_
     intro wT hT
     have bT := hT.below b5c (by omega);refine ⟨by rw [bT.block _ (by omega)]; exact hg1, ?_⟩;refine wpAnyH_done (by kernel_rfl) ?_ _;refine NoPanic.normal ?_;clear hH;have hP := hid (And.intro (show B ≤ w1c.heap.size by omega) (And.intro hT.here bT))
     go_wp2_with fail
     go_meet
     case rel => exact ⟨_, rfl, hP⟩
   ·refine stNew 5 4 (.pointer (some ⟨W.drew.heap.size, 0, none⟩)) (.cells #[.int .i64 0, .int .i64 0] 32) rfl rfl (by rfl) (by go_simp) ?_
    have b6a : Below B W (W.drew.alloc (.cells #[.int .i64 0, .int .i64 0] 32)) := b0.alloc (by have := b0.size; omega) _
    have p6a : B ≤ W.drew.heap.size := by have := b0.size; omega
    have q6a : (W.drew.alloc (.cells #[.int .i64 0, .int .i64 0] 32)).heap[W.drew.heap.size]? = some (.cells #[.int .i64 0, .int .i64 0] 32 (0, 0)) := heap_alloc_new _ _
    have hH : (W.drew.alloc (.cells #[.int .i64 0, .int .i64 0] 32)).heap[w.heap.size]? = some (.cells (SA s) 36 (0, 0)) := by rw [b6a.block _ (by omega)]; exact hg1
    refine ⟨hH, ?_⟩;simp only [sS];refine step1 1 (by kernel_rfl) ?_;refine stCall 1 8 25 #[.agg (SA s), .int .i64 4, .int .i64 4] _ rfl rfl (by rfl) (by go_simp) (says_any s 4 4 _ hs (by decide) (by decide) (by decide) (by decide)) ?_
    rintro e w7c ⟨rfl, hb7c⟩
    have b7c : Below B W w7c := btr b6a hb7c (by have := b6a.size; omega)
    have z7c : B ≤ w7c.heap.size := by have := b7c.size; omega
    have hH : w7c.heap[w.heap.size]? = some (.cells (SA s) 36 (0, 0)) := by rw [b7c.block _ (by omega)]; exact hg1
    have q7c : w7c.heap[W.drew.heap.size]? = some (.cells #[.int .i64 0, .int .i64 0] 32 (0, 0)) := by rw [hb7c.block _ (slt q6a)]; exact q6a
    refine ⟨_, rfl, hH, ?_⟩;simp only [sS];refine step1 3 (by kernel_rfl) ?_;refine stCall 3 10 25 #[.agg (SA s), .int .i64 8, .int .i64 4] _ rfl rfl (by rfl) (by go_simp) (says_any s 8 4 _ hs (by decide) (by decide) (by decide) (by decide)) ?_
    rintro e w8c ⟨rfl, hb8c⟩
    have b8c : Below B W w8c := btr b7c hb8c (by have := b7c.size; omega)
    have z8c : B ≤ w8c.heap.size := by have := b8c.size; omega
    have hH : w8c.heap[w.heap.size]? = some (.cells (SA s) 36 (0, 0)) := by rw [b8c.block _ (by omega)]; exact hg1
    have q8c : w8c.heap[W.drew.heap.size]? = some (.cells #[.int .i64 0, .int .i64 0] 32 (0, 0)) := by rw [hb8c.block _ (slt q7c)]; exact q7c
    refine ⟨_, rfl, hH, ?_⟩;simp only [sS];refine tV 4 11 (.agg #[.int .i64 (sayV s 4 4), .int .i64 (sayV s 8 4)]) rfl (by kernel_rfl) rfl (by rfl) hH (fun _ hw' => by go_simp) ?_;simp only [sS];refine step1 6 (by kernel_rfl) ?_;refine stStoreR 6 32 (.tmp 4) (.tmp 11) (W.drew.heap.size) #[.int .i64 (sayV s 4 4), .int .i64 (sayV s 8 4)] 32 #[.int .i64 0, .int .i64 0] rfl rfl (by rfl) rfl rfl rfl q8c (by rw [szS]; rfl) rfl (by simp [Value.oneCell']) ?_
    intro wT hT
    have bT := hT.below b8c (by omega);refine ⟨by rw [bT.block _ (by omega)]; exact hg1, ?_⟩;refine wpAnyH_done (by kernel_rfl) ?_ _;refine NoPanic.normal ?_;clear hH;have hP := hid (And.intro (show B ≤ W.drew.heap.size by omega) (And.intro hT.here bT))
    go_wp2_with fail
    go_meet
    case rel => exact ⟨_, rfl, hP⟩
 case rest =>
  obtain ⟨g, rfl, HG⟩ := hcut;obtain ⟨hge, hgr, hbc⟩ := HG.out
  have h1 : wc.heap[w.heap.size]? = some (.cells (SA s) 36 (0, 0)) := by rw [hbc.block _ (by omega)]; exact hg1
  have h2 : wc.heap[w.heap.size + 1]? = some (.cells #[.int .i64 0, .int .i64 0] 32 (0, 0)) := by rw [hbc.block _ (by omega)]; exact hg2
  have hcw : Below w.heap.size w wc := btr hbW hbc (by omega);have hgs := slt hgr;have H1 := hid h1;have H2 := hid h2;have HR := hid hgr;have HC := hid hcw
  have hsup := fun w' => rsuperSector_any (sayV s 4 4) (sayV s 8 4) w'
  have HSC := supS_sec (sayV s 4 4) (sayV s 8 4);have hgd := guard_sec;have hl := hs.1;clear hg1 hg2 hbW hW hB hgr h1 h2 hcw hbc HG
  by_cases he : supB (sayV s 4 4) (sayV s 8 4) = true
  ·have hE : supE (sayV s 4 4) (sayV s 8 4) = 0 := by simp [supE, he]
   rw [hE] at hsup
   by_cases hq : supS (sayV s 4 4) (sayV s 8 4) = s
   ·have HV : Hid (rdSup (sayV s 4 4) (sayV s 8 4) s = ((sayV s 4 4), (sayV s 8 4), 0)) := by show _ = _; simp [rdSup, he, hq]
    have heq : ∀ w', (Op.equalIn 10000 36 (.agg (SA (supS (sayV s 4 4) (sayV s 8 4)))) (.agg (SA s))).run Tryz.prog w' = .ok true w' := fun w' => by rw [eq_sec _ _ HSC.1 hl, decide_eq_true hq]
    have HLS := hid HSC.1;clear hq HSC he
    go_wp2_with (first | refine load_R rfl 32 (.tmp 4) rfl g rfl 32 _ _ HR.out Tryz.underlying32 rfl (by rw [szS]; rfl) ?_ | (go_at_call 26; refine (hsup _).mono ?_; rintro e w2 ⟨rfl, hb2⟩) | (refine store_sec rfl (.tmp 5) _ rfl w2.heap.size rfl _ rfl HLS.out Zs Zs_len (heap_alloc_new _ _) ?_; intro w3 hw3; obtain ⟨HA1, HA2, HAR, HAC⟩ := after_new (t := 32) hb2 hw3 H1.out H2.out HR.out HC.out) | refine load_sec_g (.tmp 5) rfl w2.heap.size rfl _ HLS.out hw3.here rfl ?_ | refine load_sec_g (.tmp 1) rfl w.heap.size rfl s hl HA1.out rfl ?_ | refine load_R rfl 32 (.tmp 4) rfl g rfl 32 _ _ HAR.out Tryz.underlying32 rfl (by rw [szS]; rfl) ?_ | (refine store_R rfl 32 (.tmp 2) _ rfl (w.heap.size + 1) _ rfl rfl 32 _ HA2.out (by rw [szS]; rfl) rfl (by simp [Value.oneCell']) ?_; intro w4 hw4))
    rw [HV.out]
    exact bodyPost_ret (v := .tuple #[.agg (SUA (sayV s 4 4) (sayV s 8 4)), .int .i64 0]) (results_R Tryz.results9 _ _ (w.heap.size + 1) _ 32 _ _ Tryz.underlying32 rfl (by rw [szS]; rfl) rfl rfl hw4.here) rfl ⟨rfl, hw4.below HAC.out (by omega)⟩
   ·have HV : Hid (rdSup (sayV s 4 4) (sayV s 8 4) s = (0, 0, 60)) := by show _ = _; simp [rdSup, he, hq]
    have heq : ∀ w', (Op.equalIn 10000 36 (.agg (SA (supS (sayV s 4 4) (sayV s 8 4)))) (.agg (SA s))).run Tryz.prog w' = .ok false w' := fun w' => by rw [eq_sec _ _ HSC.1 hl, decide_eq_false hq]
    have HLS := hid HSC.1;clear hq HSC he
    go_wp2_with (first | refine load_R rfl 32 (.tmp 4) rfl g rfl 32 _ _ HR.out Tryz.underlying32 rfl (by rw [szS]; rfl) ?_ | (go_at_call 26; refine (hsup _).mono ?_; rintro e w2 ⟨rfl, hb2⟩) | (refine store_sec rfl (.tmp 5) _ rfl w2.heap.size rfl _ rfl HLS.out Zs Zs_len (heap_alloc_new _ _) ?_; intro w3 hw3; obtain ⟨HA1, HA2, HAR, HAC⟩ := after_new (t := 32) hb2 hw3 H1.out H2.out HR.out HC.out) | refine load_sec_g (.tmp 5) rfl w2.heap.size rfl _ HLS.out hw3.here rfl ?_ | refine load_sec_g (.tmp 1) rfl w.heap.size rfl s hl HA1.out rfl ?_ | (refine store_R rfl 32 (.tmp 2) _ rfl (w.heap.size + 1) _ rfl rfl 32 _ HA2.out (by rw [szS]; rfl) rfl (by simp [Value.oneCell']) ?_; intro w4 hw4))
    rw [HV.out]
    exact bodyPost_ret (v := .tuple #[.agg (SUA 0 0), .int .i64 60]) (results_R Tryz.results9 _ _ (w.heap.size + 1) _ 32 _ _ Tryz.underlying32 rfl (by rw [szS]; rfl) rfl rfl hw4.here) rfl ⟨rfl, hw4.below HAC.out (by omega)⟩
  ·have hE : supE (sayV s 4 4) (sayV s 8 4) = 60 := by simp [supE, he]
   have hS : supS (sayV s 4 4) (sayV s 8 4) = Zs := by simp [supS, he]
   rw [hE, hS] at hsup
   have HV : Hid (rdSup (sayV s 4 4) (sayV s 8 4) s = (0, 0, 60)) := by show _ = _; simp [rdSup, he]
   clear HSC he
   go_wp2_with (first | refine load_R rfl 32 (.tmp 4) rfl g rfl 32 _ _ HR.out Tryz.underlying32 rfl (by rw [szS]; rfl) ?_ | (go_at_call 26; refine (hsup _).mono ?_; rintro e w2 ⟨rfl, hb2⟩) | (refine store_sec rfl (.tmp 5) _ rfl w2.heap.size rfl _ rfl Zs_len Zs Zs_len (heap_alloc_new _ _) ?_; intro w3 hw3; obtain ⟨HA1, HA2, HAR, HAC⟩ := after_new (t := 32) hb2 hw3 H1.out H2.out HR.out HC.out) | (refine store_R rfl 32 (.tmp 2) _ rfl (w.heap.size + 1) _ rfl rfl 32 _ HA2.out (by rw [szS]; rfl) rfl (by simp [Value.oneCell']) ?_; intro w4 hw4))
   rw [HV.out]
   exact bodyPost_ret (v := .tuple #[.agg (SUA 0 0), .int .i64 60]) (results_R Tryz.results9 _ _ (w.heap.size + 1) _ 32 _ _ Tryz.underlying32 rfl (by rw [szS]; rfl) rfl rfl hw4.here) rfl ⟨rfl, hw4.below HAC.out (by omega)⟩

end Go.Proofs.YtpmignilhoihnabGreat

namespace Go.Proofs.YtpmignilhoihnabGreat
open Go.RowKit Go.Shelf

def WellI (im : Img) : Prop := (supOf im).2.2 = 0 ∧ WellP (supOf im).2.1.toNat im
noncomputable def wellB (im : Img) : Bool := @decide (WellI im) (Classical.propDecidable _)
theorem wellB_true {im : Img} (h : WellI im) : wellB im = true := @decide_eq_true _ (Classical.propDecidable _) h
theorem wellB_false {im : Img} (h : ¬ WellI im) : wellB im = false := @decide_eq_false _ (Classical.propDecidable _) h
theorem rsup_same {s : List Int} (hs : IsSec s) : rdSup (sayV s 4 4) (sayV s 8 4) s = rdSup (getV s 4 4) (getV s 8 4) s := by
 have e1 : sayV s 4 4 = numAt s 4 4 := sayV_small (P := 4) (L := 4) (by decide);have e2 : sayV s 8 4 = numAt s 8 4 := sayV_small (P := 8) (L := 4) (by decide);have g1 : getV s 4 4 = numAt s 4 4 := getV_small (P := 4) (L := 4) hs (by decide) (by decide) (by decide);have g2 : getV s 8 4 = numAt s 8 4 := getV_small (P := 8) (L := 4) hs (by decide) (by decide) (by decide);rw [e1, e2, g1, g2]
theorem rsup_c (s : List Int) (hs : IsSec s) (w : World) : Calls Tryz.prog 9 #[.agg (SA s)] w fun e w' => e = .returned (.tuple #[.agg (SUA (rdSup (getV s 4 4) (getV s 8 4) s).1 (rdSup (getV s 4 4) (getV s 8 4) s).2.1), .int .i64 (rdSup (getV s 4 4) (getV s 8 4) s).2.2]) ∧ Chg w w' No := by
 refine (rreadSuper_any s hs w).mono ?_
 rintro e w' ⟨rfl, hb⟩
 rw [rsup_same hs]
 exact ⟨rfl, Chg.of_below hb No⟩
theorem infoIno : ∃ i, Tryz.prog.info? 39 = some i ∧ i.zero = some (.agg (NA Zi)) ∧ i.size = 18 ∧ i.bytes = 144 := by
 have h : (Tryz.prog.info? 39).map (fun i => (i.zero, i.size, i.bytes)) = some (some (.agg (NA Zi)), 18, 144) := by kernel_rfl
 cases hq : Tryz.prog.info? 39 with
 | none => rw [hq] at h; cases h
 | some i =>
  rw [hq] at h
  simp at h
  exact ⟨i, rfl, h.1, h.2.1, h.2.2⟩
def IA18 (n : Nat) : Array Value := madeCells (NA Zi) (n * 18)
theorem make_inos (n : Nat) (h1 : n ≤ 5000) (w : World) :
  (Instr.makeSlice 66 (.int .i64 (n : Int)) (.int .i64 (n : Int))).run Tryz.prog w = .ok (.slice (some ⟨w.heap.size, 0, none⟩) n n) (w.alloc (.cells (IA18 n) 39)) := by
 obtain ⟨i, hi, hz, hs, hb⟩ := infoIno;rw [run_make w 66 39 i _ Tryz.underlying66 hi hz .i64 .i64 n n (by omega) (Int.le_refl _) (by rw [hb]; omega) (by omega), hs];rw [Int.toNat_natCast]
 rfl
theorem Zi_get (j : Nat) : Zi.getD j 0 = 0 := by
 unfold Zi;rw [List.getD_eq_getElem?_getD, List.getElem?_replicate]
 split <;> rfl
theorem inat_made (w : World) (n : Nat) : InAt (w.alloc (.cells (IA18 n) 39)) w.heap.size n (fun _ => Zi) :=
 ⟨_, heap_alloc_new _ _, fun i hi j hj => by
  have hb : i * 18 + j < n * 18 := by omega
  have hz : (NA Zi).size = 18 := by rw [NA_size]; rfl
  have e : (NA Zi)[j % 18]! = Value.int .i64 0 := by
   have hm : j % 18 < 18 := Nat.mod_lt _ (by decide);rw [Array.getElem!_eq_getD, Array.getD_eq_getD_getElem?, NA_get Zi _ (by rw [Zi_len]; exact hm), Zi_get]
   rfl
  unfold IA18;rw [Zi_get]
  simp only [madeCells, Array.getElem?_map, hz]
  simp [hb, e]⟩
theorem sight_made {w w3 : World} {im : Img} {ia : Option Addr} {ic n M sb ib : Nat} (hi : ImgAt w ia im) (hl : im.length = n) (h8 : 8 ≤ n) (h9 : n ≤ 4096) (m1 : 1 ≤ M) (m2 : M + 2 ≤ n) (hc : Chg w w3 No) (hs : BAt w3 sb n (fun _ => false)) (hib : InAt w3 ib (M + 1) (fun _ => Zi)) (hsb : w.heap.size ≤ sb) :
  let c : SC := ⟨w3.heap.size, sb, ib, n, M, ia, ic, n, M + 1, im⟩
  IsS (w3.alloc (.cells (sightV c) 68)) c (fun _ => false) ∧ InAt (w3.alloc (.cells (sightV c) 68)) ib (M + 1) (fun _ => Zi) ∧ Chg w (w3.alloc (.cells (sightV c) 68)) No := by
 intro c
 have hA := Chg.alloc w3 (.cells (sightV c) 68) No;have hc2 : Chg w (w3.alloc (.cells (sightV c) 68)) No := hc.trans hA (fun _ _ e => e) (fun _ _ e => e);refine ⟨⟨heap_alloc_new _ _, hi.keep hc2 (fun _ _ e => e), hl, h8, h9, m1, m2, fun k hk e => ?_, hs.keep hA (fun e => e)⟩, hib.keep hA (fun e => e), hc2⟩
 have : k < w.heap.size := by
  rcases hi.2 with q | ⟨b, o, q, hb, _⟩
  ·rw [q] at hl; simp at hl; omega
  ·have hk : blkOf ia k := hk
   rw [q] at hk;have hk : b = k := hk
   omega
 have e : k = sb := e
 omega
def fK (im : Img) (k : Nat) : Nat → List Int := fun i => if 1 ≤ i ∧ i ≤ k then zI im (i : Int) else Zi
theorem fK_zero (im : Img) : fK im 0 = fun _ => Zi := by
 funext i
 unfold fK;rw [if_neg (by omega)]
theorem fK_succ (im : Img) (k : Nat) : putF18 (fK im k) (k + 1) (zI im ((k : Int) + 1)) = fK im (k + 1) := by
 funext i
 unfold putF18 fK
 by_cases e : i = k + 1
 ·subst e
  rw [if_pos rfl, if_pos (by omega)]
  rfl
 ·rw [if_neg e]
  by_cases e2 : 1 ≤ i ∧ i ≤ k
  ·rw [if_pos e2, if_pos (by omega)]
  ·rw [if_neg e2, if_neg (by omega)]
theorem fK_at {im : Img} {k i : Nat} (h1 : 1 ≤ i) (h2 : i ≤ k) : fK im k i = zI im (i : Int) := by
 unfold fK;rw [if_pos ⟨h1, h2⟩]
structure WQ (w0 w : World) (c : SC) (gS : Nat) (sn : Int → Bool) (f : Nat → List Int) : Prop where
 s : IsS w c sn
 i : InAt w c.ib (c.M + 1) f
 g : w.heap[gS]? = some (.cells (SUA c.N c.M) 32 (0, 0))
 ch : Chg w0 w No
 nsb : w0.heap.size ≤ c.sb
 nib : w0.heap.size ≤ c.ib
 im : ImgAt w0 c.ia c.im
theorem WQ.step {w0 w w' : World} {c : SC} {gS : Nat} {sn : Int → Bool} {f : Nat → List Int} (h : WQ w0 w c gS sn f) (hc : Chg w w' No) : WQ w0 w' c gS sn f :=
 ⟨h.s.call hc, h.i.keep hc (fun e => e), hc.keep h.g (fun e => e), h.ch.trans hc (fun _ _ e => e) (fun _ _ e => e), h.nsb, h.nib, h.im⟩
theorem WQ.note {w0 w w' : World} {c : SC} {gS : Nat} {sn : Int → Bool} {f f' : Nat → List Int} (h : WQ w0 w c gS sn f) (hi : InAt w' c.ib (c.M + 1) f') (hc : Chg w w' (· = c.ib)) : WQ w0 w' c gS sn f' := by
 obtain ⟨A, hA, _⟩ := h.i;obtain ⟨C, hC, _⟩ := h.s.se;have hch : Chg w0 w' No := h.ch.trans hc (fun _ _ e => e) (fun j hj e => by have := h.nib; omega);have n1 : c.p ≠ c.ib := obj_ne h.s.me hA (by intro e; cases e);have n2 : c.sb ≠ c.ib := obj_ne hC hA (by intro e; cases e);have n3 : gS ≠ c.ib := obj_ne h.g hA (by intro e; cases e)
 exact ⟨⟨hc.keep h.s.me n1, h.im.keep hch (fun _ _ e => e), h.s.il, h.s.n1, h.s.n2, h.s.m1, h.s.m2, h.s.ib, h.s.se.keep hc n2⟩, hi, hc.keep h.g n3, hch, h.nsb, h.nib, h.im⟩
theorem WQ.ptrs {w0 w w' : World} {c : SC} {gS : Nat} {sn s' : Int → Bool} {f : Nat → List Int} (h : WQ w0 w c gS sn f) (hs : IsS w' c s') (hc : Chg w w' (· = c.sb)) : WQ w0 w' c gS s' f := by
 obtain ⟨A, hA, _⟩ := h.i;obtain ⟨C, hC, _⟩ := h.s.se;have n2 : c.ib ≠ c.sb := obj_ne hA hC (by intro e; cases e);have n3 : gS ≠ c.sb := obj_ne h.g hC (by intro e; cases e)
 exact ⟨hs, h.i.keep hc n2, hc.keep h.g n3, h.ch.trans hc (fun _ _ e => e) (fun j hj e => by have := h.nsb; omega), h.nsb, h.nib, h.im⟩
section
variable {ops : Array Oper} {Q : Exit → Act → World → Prop} {S : World → Prop} {fuel : Nat} {listed : Array Bool} {a : Act} {w : World}
theorem stSecV (i d : Nat) (x : Operand) (g off : Nat) (c : List Int) (hc : c.length = 128) {o : Oper} (hop : ops[i]? = some o) (hd : o.dst = some d) (ho : o.op = .load 36 x) (hx : a.eval x = .pointer (some ⟨g, off, none⟩)) (hw : Region.wanted o (yielded ops a.tmps) = true) (hS : S w)
  (hg : w.rangeAt g off (c.map (Value.int .u8))) (h : wpAnyH Tryz.prog .any ops Q S fuel (listed.setIfInBounds i true) { a with tmps := a.tmps.setIfInBounds d (.agg (SA c)) } w) : St ops Q S fuel listed a w i := by
 refine stVal i d _ hop hd hw ?_ hS h;have hl := run_loadVar_mid w g off 36 (c.map (Value.int .u8)) _ hg Tryz.underlying36 rfl (by rw [sz26, List.length_map, hc])
 have e : (c.map (Value.int .u8)).toArray = SA c := by simp [SA]
 rw [e] at hl;unfold execOp
 simp only [ho, hx, Instr.loadAt, Instr.sureAddr, Sem.run_bind, Sem.run_pure, Result.andThen_ok, hl]
theorem stStoreN (i : Nat) (x y : Operand) (b k n : Nat) (z : List Int) (f : Nat → List Int) {o : Oper} (hop : ops[i]? = some o) (hd : o.dst = none) (hw : Region.wanted o (yielded ops a.tmps) = true) (ho : o.op = .store 39 x y)
  (hx : a.eval x = .pointer (some ⟨b, k * 18, none⟩)) (hy : a.eval y = .agg (NA z)) (hz : z.length = 18) (h : InAt w b n f) (hk : k < n)
  (hK : ∀ w', InAt w' b n (putF18 f k z) → Chg w w' (· = b) → S w' ∧ wpAnyH Tryz.prog .any ops Q S fuel (listed.setIfInBounds i true) a w') : St ops Q S fuel listed a w i := by
 refine wpOp_step hop (fun K hKK => ?_);rw [if_pos hw];obtain ⟨A, hA, hA2⟩ := id h;refine wp_store_mid 39 x y ho b (k * 18) (NA z) hx hy (fun j hj => ?_) (by rw [szI, NA_size, hz]) (NA_one z) ?_
 ·rw [NA_size, hz] at hj
  rw [h.cell hk hj]
  exact ⟨rfl, frozen_of_row w b _ A 39 hA⟩
 ·obtain ⟨h1, h2⟩ := h.set hk hz
  have := hK _ h1 h2;unfold Act.put;rw [hd]
  have e : (NA z).toList = z.map (Value.int .i64) := by simp [NA]
  rw [e]
  exact hKK _ _ this
end
end Go.Proofs.YtpmignilhoihnabGreat
