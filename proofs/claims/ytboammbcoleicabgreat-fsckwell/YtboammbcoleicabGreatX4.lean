/-
 A look begins: look.queue, look.begin.
-/
import Derived.Test.YtboammbcoleicabGreatX3
import Derived.Laws.EntriesVeiled
namespace Go.Proofs.YtboammbcoleicabGreat
open Go.RowKit Go.Shelf

theorem Chg.t2 {w a b : World} (h : Chg w a No) (k : Chg a b No) : Chg w b No := h.trans k (fun _ _ e => e) (fun _ _ e => e)
theorem uUp {w v v' : World} {g : Nat} (h : w.heap.size ≤ g ∧ g < v.heap.size) (hc : Chg v v' No) : w.heap.size ≤ g ∧ g < v'.heap.size := ⟨h.1, Nat.lt_of_lt_of_le h.2 hc.size⟩
section
variable {ops : Array Oper} {Q : Exit → Act → World → Prop} {S : World → Prop} {fuel : Nat} {listed : Array Bool} {a : Act} {w : World}
theorem step3 (i j k : Nat) (hr : Region.ready .any ops listed = [i, j, k]) (h1 : St ops Q S fuel listed a w i) (h2 : St ops Q S fuel listed a w j) (h3 : St ops Q S fuel listed a w k) : wpAnyH Tryz.prog .any ops Q S (fuel + 1) listed a w :=
 wpAnyH_all hr (by simp) fun l hl => by
  simp at hl
  rcases hl with rfl | rfl | rfl
  ·exact h1
  ·exact h2
  ·exact h3
theorem step4 (i j k m : Nat) (hr : Region.ready .any ops listed = [i, j, k, m]) (h1 : St ops Q S fuel listed a w i) (h2 : St ops Q S fuel listed a w j) (h3 : St ops Q S fuel listed a w k) (h4 : St ops Q S fuel listed a w m) : wpAnyH Tryz.prog .any ops Q S (fuel + 1) listed a w :=
 wpAnyH_all hr (by simp) fun l hl => by
  simp at hl
  rcases hl with rfl | rfl | rfl | rfl
  ·exact h1
  ·exact h2
  ·exact h3
  ·exact h4
end

set_option maxRecDepth 100000 in
set_option maxHeartbeats 1000000 in
theorem queue_any (w : World) : Calls Tryz.prog 49 #[] w fun e w' => e = .returned (.tuple #[.func (.func 66) #[] #[.pointer (some ⟨w.heap.size, 0, none⟩)], .func (.func 67) #[] #[.pointer (some ⟨w.heap.size, 0, none⟩)]]) ∧ w' = w.alloc (.cells #[.slice none 0 0] 138) := by
 go_enter Tryz.func49, Tryz.ntmps49
 go_wp2_with fail
 go_ret2
 exact ⟨rfl, rfl⟩

def look0 (N M : Nat) (ia : Option Addr) (ic g wc cb vb tb : Nat) : Array Value :=
 #[.int .i64 N, .int .i64 M, .slice ia N ic, .slice (some ⟨g, 0, none⟩) N wc, .map (some cb), .map (some vb), .map (some tb), .nilFunc, .nilFunc]
structure Beg (w0 w : World) (N M : Nat) (ia : Option Addr) (ic : Nat) (im : Img) (p g wc cb vb tb : Nat) : Prop where
 me : w.heap[p]? = some (.cells (look0 N M ia ic g wc cb vb tb) 87 (0, 0))
 ci : ImgAt w ia im
 wt : WtAt w g im
 h4 : SetAt w cb (fun _ => False)
 h5 : SetAt w vb (fun _ => False)
 h6 : MapV w tb (fun _ => none)
 b0 : w0.heap.size ≤ g
 b1 : w0.heap.size ≤ cb
 b2 : w0.heap.size ≤ vb
 b3 : w0.heap.size ≤ tb
 cv : cb ≠ vb
 ct : cb ≠ tb
 vt : vb ≠ tb
 pp : w0.heap.size ≤ p
 ch : Chg w0 w No

set_option maxRecDepth 100000 in
set_option maxHeartbeats 4000000 in
theorem begin_any {b o ic N M : Nat} {im : Img} {w : World} (h : ImgAt w (some ⟨b, o, none⟩) im) (hl : im.length = N) (n1 : 8 ≤ N) (n2 : N ≤ 4096) (m1 : 1 ≤ M) (m2 : M + 2 ≤ N) :
  Calls Tryz.prog 28 #[.agg (SUA N M), .slice (some ⟨b, o, none⟩) N ic] w fun e w' => ∃ lb wc, e = .returned (.pointer (some ⟨lb.p, 0, none⟩)) ∧ IsL w' ⟨w.heap.size, lb, N, M, some ⟨b, o, none⟩, ic, wc, im⟩ ⟨im, fun _ => false, fun _ => false, fun _ => none, []⟩ ∧ Chg w w' No ∧ w.heap.size ≤ lb.p := by
 have hmm := @run_makeMap Tryz.prog
 have hA := Chg.alloc w (.cells #[.int .i64 N, .int .i64 M] 56) No
 have HA := hid hA
 have HN := hid (heap_alloc_new w (.cells #[.int .i64 N, .int .i64 M] 56))
 have HI := hid (h.keep hA (fun _ _ e => e))
 have HIB : Hid (b < w.heap.size) := hid (by
  rcases h.2 with e | ⟨b', o', e, hb, _⟩
  ·rw [e] at hl; simp at hl; omega
  ·cases e; exact hb)
 have HB : Hid (8 ≤ N ∧ N ≤ 4096 ∧ 1 ≤ M ∧ M + 2 ≤ N) := hid ⟨n1, n2, m1, m2⟩
 have HL := hid hl
 clear h hl n1 n2 m1 m2 hA
 unfold SUA
 go_enter Tryz.func28, Tryz.ntmps28
 go_upto_region 1 with fail
 go_cut [5] (fun x wz => ∃ p g wc cb vb tb : Nat, x = .pointer (some ⟨p, 0, none⟩) ∧ Hid (Beg w wz N M (some ⟨b, o, none⟩) ic im p g wc cb vb tb))
 case first =>
  obtain ⟨w0, hw0⟩ : ∃ y, y = w.alloc (.cells #[.int .i64 N, .int .i64 M] 56) := ⟨_, rfl⟩
  rw [← hw0] at HA HN HI ⊢
  have HZ : Hid (w.heap.size < w0.heap.size) := hid (slt HN.out)
  clear hw0
  refine wp_region_noPanic ?_
  refine wp_region_held_drew (S := fun w' => w'.heap[w.heap.size]? = some (.cells #[.int .i64 N, .int .i64 M] 56 (0, 0))) (by kernel_rfl) HN.out (fun hHeld => ?_)
  obtain ⟨v, hv⟩ : ∃ y, y = w0.drew := ⟨_, rfl⟩
  rw [← hv] at hHeld ⊢
  have HC : Hid (Chg w v No) := hid (by rw [hv]; exact HA.out.drew)
  have HM : Hid (ImgAt v (some ⟨b, o, none⟩) im) := hid (by rw [hv]; exact HI.out.keep (Chg.refl w0 No).drew (fun _ _ e => e))
  have HH := hid hHeld
  have HZ : Hid (w.heap.size < v.heap.size) := hid (slt hHeld)
  clear hv HA HN HI
  refine takeR 0 6 56 (.tmp 2) w.heap.size 56 #[.int .i64 N, .int .i64 M] _ rfl (by kernel_rfl) (by kernel_rfl) (by kernel_rfl) rfl rfl rfl Tryz.underlying56 rfl szSU (by rfl) (fun _ _ _ h => h) hHeld (fun W' hw' => hw') ?_
  simp only [sA, sB, sC]
  refine tV 1 7 (.slice (some ⟨b, o, none⟩) N ic) rfl (by kernel_rfl) rfl (by rfl) (fun _ _ _ h => h) hHeld (fun W' hw' => rfl) ?_
  simp only [sA, sB, sC]
  refine tV 2 8 (.slice (some ⟨b, o, none⟩) N ic) rfl (by kernel_rfl) rfl (by rfl) (fun _ _ _ h => h) hHeld (fun W' hw' => rfl) ?_
  simp only [sA, sB, sC]
  refine step4 3 4 5 6 (by kernel_rfl) ?_ ?_ ?_ ?_
  ·skip
   refine stCall 3 9 48 #[.slice (some ⟨b, o, none⟩) N ic] _ rfl rfl (by rfl) (by go_simp) (by have hk := clone_any (ic := ic) HM.out (by have := HB.out.1; have := HL.out; omega) (by have := HB.out.2.1; have := HL.out; omega); rw [HL.out] at hk; exact hk) ?_
   rintro e v1 ⟨g, wc, rfl, hg, hW, hc⟩
   have H3 := hid hW
   have U3 : Hid (w.heap.size ≤ g ∧ g < v1.heap.size) := hid ⟨by have := HZ.out; omega, hW.lt⟩
   clear hg hW
   replace HM := hid (HM.out.keep hc (fun _ _ e => e))
   replace HC := hid (HC.out.t2 hc)
   replace HH := hid (hc.keep HH.out (fun e => e))
   replace HZ := hid (slt HH.out)
   clear hc hHeld
   have hHeld := HH.out
   refine ⟨_, rfl, hHeld, ?_⟩
   simp only [sA, sB, sC]
   refine step3 4 5 6 (by kernel_rfl) ?_ ?_ ?_
   ·skip
    refine stNew 4 10 (.map (some v1.heap.size)) (.map #[] 0) rfl rfl (by rfl) (by go_simp) ?_
    have hc := Chg.alloc v1 (.map #[] 0) No
    have hk := SetAt.made v1
    have hs := World.size_alloc v1 (.map #[] 0)
    obtain ⟨v2, he⟩ : ∃ y, y = v1.alloc (.map #[] 0) := ⟨_, rfl⟩
    rw [← he] at hc hk hs ⊢
    obtain ⟨cb, hb⟩ : ∃ y, y = v1.heap.size := ⟨_, rfl⟩
    rw [← hb] at hk ⊢
    have H4 := hid hk
    have U4 : Hid (w.heap.size ≤ cb ∧ cb < v2.heap.size) := hid ⟨by have := HZ.out; omega, by omega⟩
    have D34 : Hid (g < cb) := hid (by have := U3.out.2; omega)
    replace HM := hid (HM.out.keep hc (fun _ _ e => e))
    replace HC := hid (HC.out.t2 hc)
    replace HH := hid (hc.keep HH.out (fun e => e))
    replace HZ := hid (slt HH.out)
    replace H3 := hid (H3.out.keep hc (fun e => e))
    replace U3 := hid (uUp U3.out hc)
    clear hc hk hs he hb hHeld
    have hHeld := HH.out
    refine ⟨hHeld, ?_⟩
    simp only [sA, sB, sC]
    refine step2 5 6 (by kernel_rfl) ?_ ?_
    ·skip
     refine stNew 5 11 (.map (some v2.heap.size)) (.map #[] 0) rfl rfl (by rfl) (by go_simp) ?_
     have hc := Chg.alloc v2 (.map #[] 0) No
     have hk := SetAt.made v2
     have hs := World.size_alloc v2 (.map #[] 0)
     obtain ⟨v3, he⟩ : ∃ y, y = v2.alloc (.map #[] 0) := ⟨_, rfl⟩
     rw [← he] at hc hk hs ⊢
     obtain ⟨vb, hb⟩ : ∃ y, y = v2.heap.size := ⟨_, rfl⟩
     rw [← hb] at hk ⊢
     have H5 := hid hk
     have U5 : Hid (w.heap.size ≤ vb ∧ vb < v3.heap.size) := hid ⟨by have := HZ.out; omega, by omega⟩
     have D35 : Hid (g < vb) := hid (by have := U3.out.2; omega)
     have D45 : Hid (cb < vb) := hid (by have := U4.out.2; omega)
     replace HM := hid (HM.out.keep hc (fun _ _ e => e))
     replace HC := hid (HC.out.t2 hc)
     replace HH := hid (hc.keep HH.out (fun e => e))
     replace HZ := hid (slt HH.out)
     replace H3 := hid (H3.out.keep hc (fun e => e))
     replace U3 := hid (uUp U3.out hc)
     replace H4 := hid (H4.out.keep hc (fun e => e))
     replace U4 := hid (uUp U4.out hc)
     clear hc hk hs he hb hHeld
     have hHeld := HH.out
     refine ⟨hHeld, ?_⟩
     simp only [sA, sB, sC]
     refine step1 6 (by kernel_rfl) ?_
     ·skip
      refine stNew 6 12 (.map (some v3.heap.size)) (.map #[] 0) rfl rfl (by rfl) (by go_simp) ?_
      have hc := Chg.alloc v3 (.map #[] 0) No
      have hk := MapV.made v3
      have hs := World.size_alloc v3 (.map #[] 0)
      obtain ⟨v4, he⟩ : ∃ y, y = v3.alloc (.map #[] 0) := ⟨_, rfl⟩
      rw [← he] at hc hk hs ⊢
      obtain ⟨tb, hb⟩ : ∃ y, y = v3.heap.size := ⟨_, rfl⟩
      rw [← hb] at hk ⊢
      have H6 := hid hk
      have U6 : Hid (w.heap.size ≤ tb ∧ tb < v4.heap.size) := hid ⟨by have := HZ.out; omega, by omega⟩
      have D36 : Hid (g < tb) := hid (by have := U3.out.2; omega)
      have D46 : Hid (cb < tb) := hid (by have := U4.out.2; omega)
      have D56 : Hid (vb < tb) := hid (by have := U5.out.2; omega)
      replace HM := hid (HM.out.keep hc (fun _ _ e => e))
      replace HC := hid (HC.out.t2 hc)
      replace HH := hid (hc.keep HH.out (fun e => e))
      replace HZ := hid (slt HH.out)
      replace H3 := hid (H3.out.keep hc (fun e => e))
      replace U3 := hid (uUp U3.out hc)
      replace H4 := hid (H4.out.keep hc (fun e => e))
      replace U4 := hid (uUp U4.out hc)
      replace H5 := hid (H5.out.keep hc (fun e => e))
      replace U5 := hid (uUp U5.out hc)
      clear hc hk hs he hb hHeld
      have hHeld := HH.out
      refine ⟨hHeld, ?_⟩
      simp only [sA, sB, sC]
      refine tV 7 13 (.agg (look0 N M (some ⟨b, o, none⟩) ic g wc cb vb tb)) rfl (by kernel_rfl) rfl (by rfl) (fun _ _ _ h => h) hHeld (fun W' hw' => by unfold look0; go_simp) ?_
      simp only [sA, sB, sC]
      refine step1 8 (by kernel_rfl) ?_
      refine stNew 8 14 (.pointer (some ⟨v4.heap.size, 0, none⟩)) (.cells (look0 N M (some ⟨b, o, none⟩) ic g wc cb vb tb) 87) rfl rfl (by rfl) (by unfold look0; go_simp) ?_
      have hc := Chg.alloc v4 (.cells (look0 N M (some ⟨b, o, none⟩) ic g wc cb vb tb) 87) No
      have hk := heap_alloc_new v4 (.cells (look0 N M (some ⟨b, o, none⟩) ic g wc cb vb tb) 87)
      obtain ⟨vz, he⟩ : ∃ y, y = v4.alloc (.cells (look0 N M (some ⟨b, o, none⟩) ic g wc cb vb tb) 87) := ⟨_, rfl⟩
      rw [← he] at hc hk ⊢
      have HP : Hid (Beg w vz N M (some ⟨b, o, none⟩) ic im v4.heap.size g wc cb vb tb) := hid ⟨hk, HM.out.keep hc (fun _ _ e => e), H3.out.keep hc (fun e => e), H4.out.keep hc (fun e => e), H5.out.keep hc (fun e => e), H6.out.keep hc (fun e => e), U3.out.1, U4.out.1, U5.out.1, U6.out.1, by have := D45.out; omega, by have := D46.out; omega, by have := D56.out; omega, by have := HZ.out; omega, HC.out.trans hc (fun _ _ e => e) (fun _ _ e => e)⟩
      have hHeld : vz.heap[w.heap.size]? = _ := hc.keep HH.out (fun e => e)
      refine ⟨hHeld, ?_⟩
      simp only [sA, sB, sC]
      refine tV 9 5 (.pointer (some ⟨v4.heap.size, 0, none⟩)) rfl (by kernel_rfl) rfl (by rfl) (fun _ _ _ h => h) hHeld (fun W' hw' => rfl) ?_
      simp only [sA, sB, sC]
      refine wpAnyH_done (by kernel_rfl) ?_ _
      refine NoPanic.normal ?_
      clear hHeld he hc hk
      go_wp2_with fail
      go_meet
      case rel => exact ⟨_, _, _, _, _, _, rfl, HP⟩
    ·skip
     refine stNew 6 12 (.map (some v2.heap.size)) (.map #[] 0) rfl rfl (by rfl) (by go_simp) ?_
     have hc := Chg.alloc v2 (.map #[] 0) No
     have hk := MapV.made v2
     have hs := World.size_alloc v2 (.map #[] 0)
     obtain ⟨v5, he⟩ : ∃ y, y = v2.alloc (.map #[] 0) := ⟨_, rfl⟩
     rw [← he] at hc hk hs ⊢
     obtain ⟨tb, hb⟩ : ∃ y, y = v2.heap.size := ⟨_, rfl⟩
     rw [← hb] at hk ⊢
     have H6 := hid hk
     have U6 : Hid (w.heap.size ≤ tb ∧ tb < v5.heap.size) := hid ⟨by have := HZ.out; omega, by omega⟩
     have D36 : Hid (g < tb) := hid (by have := U3.out.2; omega)
     have D46 : Hid (cb < tb) := hid (by have := U4.out.2; omega)
     replace HM := hid (HM.out.keep hc (fun _ _ e => e))
     replace HC := hid (HC.out.t2 hc)
     replace HH := hid (hc.keep HH.out (fun e => e))
     replace HZ := hid (slt HH.out)
     replace H3 := hid (H3.out.keep hc (fun e => e))
     replace U3 := hid (uUp U3.out hc)
     replace H4 := hid (H4.out.keep hc (fun e => e))
     replace U4 := hid (uUp U4.out hc)
     clear hc hk hs he hb hHeld
     have hHeld := HH.out
     refine ⟨hHeld, ?_⟩
     simp only [sA, sB, sC]
     refine step1 5 (by kernel_rfl) ?_
     ·skip
      refine stNew 5 11 (.map (some v5.heap.size)) (.map #[] 0) rfl rfl (by rfl) (by go_simp) ?_
      have hc := Chg.alloc v5 (.map #[] 0) No
      have hk := SetAt.made v5
      have hs := World.size_alloc v5 (.map #[] 0)
      obtain ⟨v6, he⟩ : ∃ y, y = v5.alloc (.map #[] 0) := ⟨_, rfl⟩
      rw [← he] at hc hk hs ⊢
      obtain ⟨vb, hb⟩ : ∃ y, y = v5.heap.size := ⟨_, rfl⟩
      rw [← hb] at hk ⊢
      have H5 := hid hk
      have U5 : Hid (w.heap.size ≤ vb ∧ vb < v6.heap.size) := hid ⟨by have := HZ.out; omega, by omega⟩
      have D35 : Hid (g < vb) := hid (by have := U3.out.2; omega)
      have D45 : Hid (cb < vb) := hid (by have := U4.out.2; omega)
      have D65 : Hid (tb < vb) := hid (by have := U6.out.2; omega)
      replace HM := hid (HM.out.keep hc (fun _ _ e => e))
      replace HC := hid (HC.out.t2 hc)
      replace HH := hid (hc.keep HH.out (fun e => e))
      replace HZ := hid (slt HH.out)
      replace H3 := hid (H3.out.keep hc (fun e => e))
      replace U3 := hid (uUp U3.out hc)
      replace H4 := hid (H4.out.keep hc (fun e => e))
      replace U4 := hid (uUp U4.out hc)
      replace H6 := hid (H6.out.keep hc (fun e => e))
      replace U6 := hid (uUp U6.out hc)
      clear hc hk hs he hb hHeld
      have hHeld := HH.out
      refine ⟨hHeld, ?_⟩
      simp only [sA, sB, sC]
      refine tV 7 13 (.agg (look0 N M (some ⟨b, o, none⟩) ic g wc cb vb tb)) rfl (by kernel_rfl) rfl (by rfl) (fun _ _ _ h => h) hHeld (fun W' hw' => by unfold look0; go_simp) ?_
      simp only [sA, sB, sC]
      refine step1 8 (by kernel_rfl) ?_
      refine stNew 8 14 (.pointer (some ⟨v6.heap.size, 0, none⟩)) (.cells (look0 N M (some ⟨b, o, none⟩) ic g wc cb vb tb) 87) rfl rfl (by rfl) (by unfold look0; go_simp) ?_
      have hc := Chg.alloc v6 (.cells (look0 N M (some ⟨b, o, none⟩) ic g wc cb vb tb) 87) No
      have hk := heap_alloc_new v6 (.cells (look0 N M (some ⟨b, o, none⟩) ic g wc cb vb tb) 87)
      obtain ⟨vz, he⟩ : ∃ y, y = v6.alloc (.cells (look0 N M (some ⟨b, o, none⟩) ic g wc cb vb tb) 87) := ⟨_, rfl⟩
      rw [← he] at hc hk ⊢
      have HP : Hid (Beg w vz N M (some ⟨b, o, none⟩) ic im v6.heap.size g wc cb vb tb) := hid ⟨hk, HM.out.keep hc (fun _ _ e => e), H3.out.keep hc (fun e => e), H4.out.keep hc (fun e => e), H5.out.keep hc (fun e => e), H6.out.keep hc (fun e => e), U3.out.1, U4.out.1, U5.out.1, U6.out.1, by have := D45.out; omega, by have := D46.out; omega, by have := D65.out; omega, by have := HZ.out; omega, HC.out.trans hc (fun _ _ e => e) (fun _ _ e => e)⟩
      have hHeld : vz.heap[w.heap.size]? = _ := hc.keep HH.out (fun e => e)
      refine ⟨hHeld, ?_⟩
      simp only [sA, sB, sC]
      refine tV 9 5 (.pointer (some ⟨v6.heap.size, 0, none⟩)) rfl (by kernel_rfl) rfl (by rfl) (fun _ _ _ h => h) hHeld (fun W' hw' => rfl) ?_
      simp only [sA, sB, sC]
      refine wpAnyH_done (by kernel_rfl) ?_ _
      refine NoPanic.normal ?_
      clear hHeld he hc hk
      go_wp2_with fail
      go_meet
      case rel => exact ⟨_, _, _, _, _, _, rfl, HP⟩
   ·skip
    refine stNew 5 11 (.map (some v1.heap.size)) (.map #[] 0) rfl rfl (by rfl) (by go_simp) ?_
    have hc := Chg.alloc v1 (.map #[] 0) No
    have hk := SetAt.made v1
    have hs := World.size_alloc v1 (.map #[] 0)
    obtain ⟨v7, he⟩ : ∃ y, y = v1.alloc (.map #[] 0) := ⟨_, rfl⟩
    rw [← he] at hc hk hs ⊢
    obtain ⟨vb, hb⟩ : ∃ y, y = v1.heap.size := ⟨_, rfl⟩
    rw [← hb] at hk ⊢
    have H5 := hid hk
    have U5 : Hid (w.heap.size ≤ vb ∧ vb < v7.heap.size) := hid ⟨by have := HZ.out; omega, by omega⟩
    have D35 : Hid (g < vb) := hid (by have := U3.out.2; omega)
    replace HM := hid (HM.out.keep hc (fun _ _ e => e))
    replace HC := hid (HC.out.t2 hc)
    replace HH := hid (hc.keep HH.out (fun e => e))
    replace HZ := hid (slt HH.out)
    replace H3 := hid (H3.out.keep hc (fun e => e))
    replace U3 := hid (uUp U3.out hc)
    clear hc hk hs he hb hHeld
    have hHeld := HH.out
    refine ⟨hHeld, ?_⟩
    simp only [sA, sB, sC]
    refine step2 4 6 (by kernel_rfl) ?_ ?_
    ·skip
     refine stNew 4 10 (.map (some v7.heap.size)) (.map #[] 0) rfl rfl (by rfl) (by go_simp) ?_
     have hc := Chg.alloc v7 (.map #[] 0) No
     have hk := SetAt.made v7
     have hs := World.size_alloc v7 (.map #[] 0)
     obtain ⟨v8, he⟩ : ∃ y, y = v7.alloc (.map #[] 0) := ⟨_, rfl⟩
     rw [← he] at hc hk hs ⊢
     obtain ⟨cb, hb⟩ : ∃ y, y = v7.heap.size := ⟨_, rfl⟩
     rw [← hb] at hk ⊢
     have H4 := hid hk
     have U4 : Hid (w.heap.size ≤ cb ∧ cb < v8.heap.size) := hid ⟨by have := HZ.out; omega, by omega⟩
     have D34 : Hid (g < cb) := hid (by have := U3.out.2; omega)
     have D54 : Hid (vb < cb) := hid (by have := U5.out.2; omega)
     replace HM := hid (HM.out.keep hc (fun _ _ e => e))
     replace HC := hid (HC.out.t2 hc)
     replace HH := hid (hc.keep HH.out (fun e => e))
     replace HZ := hid (slt HH.out)
     replace H3 := hid (H3.out.keep hc (fun e => e))
     replace U3 := hid (uUp U3.out hc)
     replace H5 := hid (H5.out.keep hc (fun e => e))
     replace U5 := hid (uUp U5.out hc)
     clear hc hk hs he hb hHeld
     have hHeld := HH.out
     refine ⟨hHeld, ?_⟩
     simp only [sA, sB, sC]
     refine step1 6 (by kernel_rfl) ?_
     ·skip
      refine stNew 6 12 (.map (some v8.heap.size)) (.map #[] 0) rfl rfl (by rfl) (by go_simp) ?_
      have hc := Chg.alloc v8 (.map #[] 0) No
      have hk := MapV.made v8
      have hs := World.size_alloc v8 (.map #[] 0)
      obtain ⟨v9, he⟩ : ∃ y, y = v8.alloc (.map #[] 0) := ⟨_, rfl⟩
      rw [← he] at hc hk hs ⊢
      obtain ⟨tb, hb⟩ : ∃ y, y = v8.heap.size := ⟨_, rfl⟩
      rw [← hb] at hk ⊢
      have H6 := hid hk
      have U6 : Hid (w.heap.size ≤ tb ∧ tb < v9.heap.size) := hid ⟨by have := HZ.out; omega, by omega⟩
      have D36 : Hid (g < tb) := hid (by have := U3.out.2; omega)
      have D56 : Hid (vb < tb) := hid (by have := U5.out.2; omega)
      have D46 : Hid (cb < tb) := hid (by have := U4.out.2; omega)
      replace HM := hid (HM.out.keep hc (fun _ _ e => e))
      replace HC := hid (HC.out.t2 hc)
      replace HH := hid (hc.keep HH.out (fun e => e))
      replace HZ := hid (slt HH.out)
      replace H3 := hid (H3.out.keep hc (fun e => e))
      replace U3 := hid (uUp U3.out hc)
      replace H5 := hid (H5.out.keep hc (fun e => e))
      replace U5 := hid (uUp U5.out hc)
      replace H4 := hid (H4.out.keep hc (fun e => e))
      replace U4 := hid (uUp U4.out hc)
      clear hc hk hs he hb hHeld
      have hHeld := HH.out
      refine ⟨hHeld, ?_⟩
      simp only [sA, sB, sC]
      refine tV 7 13 (.agg (look0 N M (some ⟨b, o, none⟩) ic g wc cb vb tb)) rfl (by kernel_rfl) rfl (by rfl) (fun _ _ _ h => h) hHeld (fun W' hw' => by unfold look0; go_simp) ?_
      simp only [sA, sB, sC]
      refine step1 8 (by kernel_rfl) ?_
      refine stNew 8 14 (.pointer (some ⟨v9.heap.size, 0, none⟩)) (.cells (look0 N M (some ⟨b, o, none⟩) ic g wc cb vb tb) 87) rfl rfl (by rfl) (by unfold look0; go_simp) ?_
      have hc := Chg.alloc v9 (.cells (look0 N M (some ⟨b, o, none⟩) ic g wc cb vb tb) 87) No
      have hk := heap_alloc_new v9 (.cells (look0 N M (some ⟨b, o, none⟩) ic g wc cb vb tb) 87)
      obtain ⟨vz, he⟩ : ∃ y, y = v9.alloc (.cells (look0 N M (some ⟨b, o, none⟩) ic g wc cb vb tb) 87) := ⟨_, rfl⟩
      rw [← he] at hc hk ⊢
      have HP : Hid (Beg w vz N M (some ⟨b, o, none⟩) ic im v9.heap.size g wc cb vb tb) := hid ⟨hk, HM.out.keep hc (fun _ _ e => e), H3.out.keep hc (fun e => e), H4.out.keep hc (fun e => e), H5.out.keep hc (fun e => e), H6.out.keep hc (fun e => e), U3.out.1, U4.out.1, U5.out.1, U6.out.1, by have := D54.out; omega, by have := D46.out; omega, by have := D56.out; omega, by have := HZ.out; omega, HC.out.trans hc (fun _ _ e => e) (fun _ _ e => e)⟩
      have hHeld : vz.heap[w.heap.size]? = _ := hc.keep HH.out (fun e => e)
      refine ⟨hHeld, ?_⟩
      simp only [sA, sB, sC]
      refine tV 9 5 (.pointer (some ⟨v9.heap.size, 0, none⟩)) rfl (by kernel_rfl) rfl (by rfl) (fun _ _ _ h => h) hHeld (fun W' hw' => rfl) ?_
      simp only [sA, sB, sC]
      refine wpAnyH_done (by kernel_rfl) ?_ _
      refine NoPanic.normal ?_
      clear hHeld he hc hk
      go_wp2_with fail
      go_meet
      case rel => exact ⟨_, _, _, _, _, _, rfl, HP⟩
    ·skip
     refine stNew 6 12 (.map (some v7.heap.size)) (.map #[] 0) rfl rfl (by rfl) (by go_simp) ?_
     have hc := Chg.alloc v7 (.map #[] 0) No
     have hk := MapV.made v7
     have hs := World.size_alloc v7 (.map #[] 0)
     obtain ⟨v10, he⟩ : ∃ y, y = v7.alloc (.map #[] 0) := ⟨_, rfl⟩
     rw [← he] at hc hk hs ⊢
     obtain ⟨tb, hb⟩ : ∃ y, y = v7.heap.size := ⟨_, rfl⟩
     rw [← hb] at hk ⊢
     have H6 := hid hk
     have U6 : Hid (w.heap.size ≤ tb ∧ tb < v10.heap.size) := hid ⟨by have := HZ.out; omega, by omega⟩
     have D36 : Hid (g < tb) := hid (by have := U3.out.2; omega)
     have D56 : Hid (vb < tb) := hid (by have := U5.out.2; omega)
     replace HM := hid (HM.out.keep hc (fun _ _ e => e))
     replace HC := hid (HC.out.t2 hc)
     replace HH := hid (hc.keep HH.out (fun e => e))
     replace HZ := hid (slt HH.out)
     replace H3 := hid (H3.out.keep hc (fun e => e))
     replace U3 := hid (uUp U3.out hc)
     replace H5 := hid (H5.out.keep hc (fun e => e))
     replace U5 := hid (uUp U5.out hc)
     clear hc hk hs he hb hHeld
     have hHeld := HH.out
     refine ⟨hHeld, ?_⟩
     simp only [sA, sB, sC]
     refine step1 4 (by kernel_rfl) ?_
     ·skip
      refine stNew 4 10 (.map (some v10.heap.size)) (.map #[] 0) rfl rfl (by rfl) (by go_simp) ?_
      have hc := Chg.alloc v10 (.map #[] 0) No
      have hk := SetAt.made v10
      have hs := World.size_alloc v10 (.map #[] 0)
      obtain ⟨v11, he⟩ : ∃ y, y = v10.alloc (.map #[] 0) := ⟨_, rfl⟩
      rw [← he] at hc hk hs ⊢
      obtain ⟨cb, hb⟩ : ∃ y, y = v10.heap.size := ⟨_, rfl⟩
      rw [← hb] at hk ⊢
      have H4 := hid hk
      have U4 : Hid (w.heap.size ≤ cb ∧ cb < v11.heap.size) := hid ⟨by have := HZ.out; omega, by omega⟩
      have D34 : Hid (g < cb) := hid (by have := U3.out.2; omega)
      have D54 : Hid (vb < cb) := hid (by have := U5.out.2; omega)
      have D64 : Hid (tb < cb) := hid (by have := U6.out.2; omega)
      replace HM := hid (HM.out.keep hc (fun _ _ e => e))
      replace HC := hid (HC.out.t2 hc)
      replace HH := hid (hc.keep HH.out (fun e => e))
      replace HZ := hid (slt HH.out)
      replace H3 := hid (H3.out.keep hc (fun e => e))
      replace U3 := hid (uUp U3.out hc)
      replace H5 := hid (H5.out.keep hc (fun e => e))
      replace U5 := hid (uUp U5.out hc)
      replace H6 := hid (H6.out.keep hc (fun e => e))
      replace U6 := hid (uUp U6.out hc)
      clear hc hk hs he hb hHeld
      have hHeld := HH.out
      refine ⟨hHeld, ?_⟩
      simp only [sA, sB, sC]
      refine tV 7 13 (.agg (look0 N M (some ⟨b, o, none⟩) ic g wc cb vb tb)) rfl (by kernel_rfl) rfl (by rfl) (fun _ _ _ h => h) hHeld (fun W' hw' => by unfold look0; go_simp) ?_
      simp only [sA, sB, sC]
      refine step1 8 (by kernel_rfl) ?_
      refine stNew 8 14 (.pointer (some ⟨v11.heap.size, 0, none⟩)) (.cells (look0 N M (some ⟨b, o, none⟩) ic g wc cb vb tb) 87) rfl rfl (by rfl) (by unfold look0; go_simp) ?_
      have hc := Chg.alloc v11 (.cells (look0 N M (some ⟨b, o, none⟩) ic g wc cb vb tb) 87) No
      have hk := heap_alloc_new v11 (.cells (look0 N M (some ⟨b, o, none⟩) ic g wc cb vb tb) 87)
      obtain ⟨vz, he⟩ : ∃ y, y = v11.alloc (.cells (look0 N M (some ⟨b, o, none⟩) ic g wc cb vb tb) 87) := ⟨_, rfl⟩
      rw [← he] at hc hk ⊢
      have HP : Hid (Beg w vz N M (some ⟨b, o, none⟩) ic im v11.heap.size g wc cb vb tb) := hid ⟨hk, HM.out.keep hc (fun _ _ e => e), H3.out.keep hc (fun e => e), H4.out.keep hc (fun e => e), H5.out.keep hc (fun e => e), H6.out.keep hc (fun e => e), U3.out.1, U4.out.1, U5.out.1, U6.out.1, by have := D54.out; omega, by have := D64.out; omega, by have := D56.out; omega, by have := HZ.out; omega, HC.out.trans hc (fun _ _ e => e) (fun _ _ e => e)⟩
      have hHeld : vz.heap[w.heap.size]? = _ := hc.keep HH.out (fun e => e)
      refine ⟨hHeld, ?_⟩
      simp only [sA, sB, sC]
      refine tV 9 5 (.pointer (some ⟨v11.heap.size, 0, none⟩)) rfl (by kernel_rfl) rfl (by rfl) (fun _ _ _ h => h) hHeld (fun W' hw' => rfl) ?_
      simp only [sA, sB, sC]
      refine wpAnyH_done (by kernel_rfl) ?_ _
      refine NoPanic.normal ?_
      clear hHeld he hc hk
      go_wp2_with fail
      go_meet
      case rel => exact ⟨_, _, _, _, _, _, rfl, HP⟩
   ·skip
    refine stNew 6 12 (.map (some v1.heap.size)) (.map #[] 0) rfl rfl (by rfl) (by go_simp) ?_
    have hc := Chg.alloc v1 (.map #[] 0) No
    have hk := MapV.made v1
    have hs := World.size_alloc v1 (.map #[] 0)
    obtain ⟨v12, he⟩ : ∃ y, y = v1.alloc (.map #[] 0) := ⟨_, rfl⟩
    rw [← he] at hc hk hs ⊢
    obtain ⟨tb, hb⟩ : ∃ y, y = v1.heap.size := ⟨_, rfl⟩
    rw [← hb] at hk ⊢
    have H6 := hid hk
    have U6 : Hid (w.heap.size ≤ tb ∧ tb < v12.heap.size) := hid ⟨by have := HZ.out; omega, by omega⟩
    have D36 : Hid (g < tb) := hid (by have := U3.out.2; omega)
    replace HM := hid (HM.out.keep hc (fun _ _ e => e))
    replace HC := hid (HC.out.t2 hc)
    replace HH := hid (hc.keep HH.out (fun e => e))
    replace HZ := hid (slt HH.out)
    replace H3 := hid (H3.out.keep hc (fun e => e))
    replace U3 := hid (uUp U3.out hc)
    clear hc hk hs he hb hHeld
    have hHeld := HH.out
    refine ⟨hHeld, ?_⟩
    simp only [sA, sB, sC]
    refine step2 4 5 (by kernel_rfl) ?_ ?_
    ·skip
     refine stNew 4 10 (.map (some v12.heap.size)) (.map #[] 0) rfl rfl (by rfl) (by go_simp) ?_
     have hc := Chg.alloc v12 (.map #[] 0) No
     have hk := SetAt.made v12
     have hs := World.size_alloc v12 (.map #[] 0)
     obtain ⟨v13, he⟩ : ∃ y, y = v12.alloc (.map #[] 0) := ⟨_, rfl⟩
     rw [← he] at hc hk hs ⊢
     obtain ⟨cb, hb⟩ : ∃ y, y = v12.heap.size := ⟨_, rfl⟩
     rw [← hb] at hk ⊢
     have H4 := hid hk
     have U4 : Hid (w.heap.size ≤ cb ∧ cb < v13.heap.size) := hid ⟨by have := HZ.out; omega, by omega⟩
     have D34 : Hid (g < cb) := hid (by have := U3.out.2; omega)
     have D64 : Hid (tb < cb) := hid (by have := U6.out.2; omega)
     replace HM := hid (HM.out.keep hc (fun _ _ e => e))
     replace HC := hid (HC.out.t2 hc)
     replace HH := hid (hc.keep HH.out (fun e => e))
     replace HZ := hid (slt HH.out)
     replace H3 := hid (H3.out.keep hc (fun e => e))
     replace U3 := hid (uUp U3.out hc)
     replace H6 := hid (H6.out.keep hc (fun e => e))
     replace U6 := hid (uUp U6.out hc)
     clear hc hk hs he hb hHeld
     have hHeld := HH.out
     refine ⟨hHeld, ?_⟩
     simp only [sA, sB, sC]
     refine step1 5 (by kernel_rfl) ?_
     ·skip
      refine stNew 5 11 (.map (some v13.heap.size)) (.map #[] 0) rfl rfl (by rfl) (by go_simp) ?_
      have hc := Chg.alloc v13 (.map #[] 0) No
      have hk := SetAt.made v13
      have hs := World.size_alloc v13 (.map #[] 0)
      obtain ⟨v14, he⟩ : ∃ y, y = v13.alloc (.map #[] 0) := ⟨_, rfl⟩
      rw [← he] at hc hk hs ⊢
      obtain ⟨vb, hb⟩ : ∃ y, y = v13.heap.size := ⟨_, rfl⟩
      rw [← hb] at hk ⊢
      have H5 := hid hk
      have U5 : Hid (w.heap.size ≤ vb ∧ vb < v14.heap.size) := hid ⟨by have := HZ.out; omega, by omega⟩
      have D35 : Hid (g < vb) := hid (by have := U3.out.2; omega)
      have D65 : Hid (tb < vb) := hid (by have := U6.out.2; omega)
      have D45 : Hid (cb < vb) := hid (by have := U4.out.2; omega)
      replace HM := hid (HM.out.keep hc (fun _ _ e => e))
      replace HC := hid (HC.out.t2 hc)
      replace HH := hid (hc.keep HH.out (fun e => e))
      replace HZ := hid (slt HH.out)
      replace H3 := hid (H3.out.keep hc (fun e => e))
      replace U3 := hid (uUp U3.out hc)
      replace H6 := hid (H6.out.keep hc (fun e => e))
      replace U6 := hid (uUp U6.out hc)
      replace H4 := hid (H4.out.keep hc (fun e => e))
      replace U4 := hid (uUp U4.out hc)
      clear hc hk hs he hb hHeld
      have hHeld := HH.out
      refine ⟨hHeld, ?_⟩
      simp only [sA, sB, sC]
      refine tV 7 13 (.agg (look0 N M (some ⟨b, o, none⟩) ic g wc cb vb tb)) rfl (by kernel_rfl) rfl (by rfl) (fun _ _ _ h => h) hHeld (fun W' hw' => by unfold look0; go_simp) ?_
      simp only [sA, sB, sC]
      refine step1 8 (by kernel_rfl) ?_
      refine stNew 8 14 (.pointer (some ⟨v14.heap.size, 0, none⟩)) (.cells (look0 N M (some ⟨b, o, none⟩) ic g wc cb vb tb) 87) rfl rfl (by rfl) (by unfold look0; go_simp) ?_
      have hc := Chg.alloc v14 (.cells (look0 N M (some ⟨b, o, none⟩) ic g wc cb vb tb) 87) No
      have hk := heap_alloc_new v14 (.cells (look0 N M (some ⟨b, o, none⟩) ic g wc cb vb tb) 87)
      obtain ⟨vz, he⟩ : ∃ y, y = v14.alloc (.cells (look0 N M (some ⟨b, o, none⟩) ic g wc cb vb tb) 87) := ⟨_, rfl⟩
      rw [← he] at hc hk ⊢
      have HP : Hid (Beg w vz N M (some ⟨b, o, none⟩) ic im v14.heap.size g wc cb vb tb) := hid ⟨hk, HM.out.keep hc (fun _ _ e => e), H3.out.keep hc (fun e => e), H4.out.keep hc (fun e => e), H5.out.keep hc (fun e => e), H6.out.keep hc (fun e => e), U3.out.1, U4.out.1, U5.out.1, U6.out.1, by have := D45.out; omega, by have := D64.out; omega, by have := D65.out; omega, by have := HZ.out; omega, HC.out.trans hc (fun _ _ e => e) (fun _ _ e => e)⟩
      have hHeld : vz.heap[w.heap.size]? = _ := hc.keep HH.out (fun e => e)
      refine ⟨hHeld, ?_⟩
      simp only [sA, sB, sC]
      refine tV 9 5 (.pointer (some ⟨v14.heap.size, 0, none⟩)) rfl (by kernel_rfl) rfl (by rfl) (fun _ _ _ h => h) hHeld (fun W' hw' => rfl) ?_
      simp only [sA, sB, sC]
      refine wpAnyH_done (by kernel_rfl) ?_ _
      refine NoPanic.normal ?_
      clear hHeld he hc hk
      go_wp2_with fail
      go_meet
      case rel => exact ⟨_, _, _, _, _, _, rfl, HP⟩
    ·skip
     refine stNew 5 11 (.map (some v12.heap.size)) (.map #[] 0) rfl rfl (by rfl) (by go_simp) ?_
     have hc := Chg.alloc v12 (.map #[] 0) No
     have hk := SetAt.made v12
     have hs := World.size_alloc v12 (.map #[] 0)
     obtain ⟨v15, he⟩ : ∃ y, y = v12.alloc (.map #[] 0) := ⟨_, rfl⟩
     rw [← he] at hc hk hs ⊢
     obtain ⟨vb, hb⟩ : ∃ y, y = v12.heap.size := ⟨_, rfl⟩
     rw [← hb] at hk ⊢
     have H5 := hid hk
     have U5 : Hid (w.heap.size ≤ vb ∧ vb < v15.heap.size) := hid ⟨by have := HZ.out; omega, by omega⟩
     have D35 : Hid (g < vb) := hid (by have := U3.out.2; omega)
     have D65 : Hid (tb < vb) := hid (by have := U6.out.2; omega)
     replace HM := hid (HM.out.keep hc (fun _ _ e => e))
     replace HC := hid (HC.out.t2 hc)
     replace HH := hid (hc.keep HH.out (fun e => e))
     replace HZ := hid (slt HH.out)
     replace H3 := hid (H3.out.keep hc (fun e => e))
     replace U3 := hid (uUp U3.out hc)
     replace H6 := hid (H6.out.keep hc (fun e => e))
     replace U6 := hid (uUp U6.out hc)
     clear hc hk hs he hb hHeld
     have hHeld := HH.out
     refine ⟨hHeld, ?_⟩
     simp only [sA, sB, sC]
     refine step1 4 (by kernel_rfl) ?_
     ·skip
      refine stNew 4 10 (.map (some v15.heap.size)) (.map #[] 0) rfl rfl (by rfl) (by go_simp) ?_
      have hc := Chg.alloc v15 (.map #[] 0) No
      have hk := SetAt.made v15
      have hs := World.size_alloc v15 (.map #[] 0)
      obtain ⟨v16, he⟩ : ∃ y, y = v15.alloc (.map #[] 0) := ⟨_, rfl⟩
      rw [← he] at hc hk hs ⊢
      obtain ⟨cb, hb⟩ : ∃ y, y = v15.heap.size := ⟨_, rfl⟩
      rw [← hb] at hk ⊢
      have H4 := hid hk
      have U4 : Hid (w.heap.size ≤ cb ∧ cb < v16.heap.size) := hid ⟨by have := HZ.out; omega, by omega⟩
      have D34 : Hid (g < cb) := hid (by have := U3.out.2; omega)
      have D64 : Hid (tb < cb) := hid (by have := U6.out.2; omega)
      have D54 : Hid (vb < cb) := hid (by have := U5.out.2; omega)
      replace HM := hid (HM.out.keep hc (fun _ _ e => e))
      replace HC := hid (HC.out.t2 hc)
      replace HH := hid (hc.keep HH.out (fun e => e))
      replace HZ := hid (slt HH.out)
      replace H3 := hid (H3.out.keep hc (fun e => e))
      replace U3 := hid (uUp U3.out hc)
      replace H6 := hid (H6.out.keep hc (fun e => e))
      replace U6 := hid (uUp U6.out hc)
      replace H5 := hid (H5.out.keep hc (fun e => e))
      replace U5 := hid (uUp U5.out hc)
      clear hc hk hs he hb hHeld
      have hHeld := HH.out
      refine ⟨hHeld, ?_⟩
      simp only [sA, sB, sC]
      refine tV 7 13 (.agg (look0 N M (some ⟨b, o, none⟩) ic g wc cb vb tb)) rfl (by kernel_rfl) rfl (by rfl) (fun _ _ _ h => h) hHeld (fun W' hw' => by unfold look0; go_simp) ?_
      simp only [sA, sB, sC]
      refine step1 8 (by kernel_rfl) ?_
      refine stNew 8 14 (.pointer (some ⟨v16.heap.size, 0, none⟩)) (.cells (look0 N M (some ⟨b, o, none⟩) ic g wc cb vb tb) 87) rfl rfl (by rfl) (by unfold look0; go_simp) ?_
      have hc := Chg.alloc v16 (.cells (look0 N M (some ⟨b, o, none⟩) ic g wc cb vb tb) 87) No
      have hk := heap_alloc_new v16 (.cells (look0 N M (some ⟨b, o, none⟩) ic g wc cb vb tb) 87)
      obtain ⟨vz, he⟩ : ∃ y, y = v16.alloc (.cells (look0 N M (some ⟨b, o, none⟩) ic g wc cb vb tb) 87) := ⟨_, rfl⟩
      rw [← he] at hc hk ⊢
      have HP : Hid (Beg w vz N M (some ⟨b, o, none⟩) ic im v16.heap.size g wc cb vb tb) := hid ⟨hk, HM.out.keep hc (fun _ _ e => e), H3.out.keep hc (fun e => e), H4.out.keep hc (fun e => e), H5.out.keep hc (fun e => e), H6.out.keep hc (fun e => e), U3.out.1, U4.out.1, U5.out.1, U6.out.1, by have := D54.out; omega, by have := D64.out; omega, by have := D65.out; omega, by have := HZ.out; omega, HC.out.trans hc (fun _ _ e => e) (fun _ _ e => e)⟩
      have hHeld : vz.heap[w.heap.size]? = _ := hc.keep HH.out (fun e => e)
      refine ⟨hHeld, ?_⟩
      simp only [sA, sB, sC]
      refine tV 9 5 (.pointer (some ⟨v16.heap.size, 0, none⟩)) rfl (by kernel_rfl) rfl (by rfl) (fun _ _ _ h => h) hHeld (fun W' hw' => rfl) ?_
      simp only [sA, sB, sC]
      refine wpAnyH_done (by kernel_rfl) ?_ _
      refine NoPanic.normal ?_
      clear hHeld he hc hk
      go_wp2_with fail
      go_meet
      case rel => exact ⟨_, _, _, _, _, _, rfl, HP⟩
  ·skip
   refine stNew 4 10 (.map (some v.heap.size)) (.map #[] 0) rfl rfl (by rfl) (by go_simp) ?_
   have hc := Chg.alloc v (.map #[] 0) No
   have hk := SetAt.made v
   have hs := World.size_alloc v (.map #[] 0)
   obtain ⟨v17, he⟩ : ∃ y, y = v.alloc (.map #[] 0) := ⟨_, rfl⟩
   rw [← he] at hc hk hs ⊢
   obtain ⟨cb, hb⟩ : ∃ y, y = v.heap.size := ⟨_, rfl⟩
   rw [← hb] at hk ⊢
   have H4 := hid hk
   have U4 : Hid (w.heap.size ≤ cb ∧ cb < v17.heap.size) := hid ⟨by have := HZ.out; omega, by omega⟩
   replace HM := hid (HM.out.keep hc (fun _ _ e => e))
   replace HC := hid (HC.out.t2 hc)
   replace HH := hid (hc.keep HH.out (fun e => e))
   replace HZ := hid (slt HH.out)
   clear hc hk hs he hb hHeld
   have hHeld := HH.out
   refine ⟨hHeld, ?_⟩
   simp only [sA, sB, sC]
   refine step3 3 5 6 (by kernel_rfl) ?_ ?_ ?_
   ·skip
    refine stCall 3 9 48 #[.slice (some ⟨b, o, none⟩) N ic] _ rfl rfl (by rfl) (by go_simp) (by have hk := clone_any (ic := ic) HM.out (by have := HB.out.1; have := HL.out; omega) (by have := HB.out.2.1; have := HL.out; omega); rw [HL.out] at hk; exact hk) ?_
    rintro e v18 ⟨g, wc, rfl, hg, hW, hc⟩
    have H3 := hid hW
    have U3 : Hid (w.heap.size ≤ g ∧ g < v18.heap.size) := hid ⟨by have := HZ.out; omega, hW.lt⟩
    have D43 : Hid (cb < g) := hid (by have := U4.out.2; omega)
    clear hg hW
    replace HM := hid (HM.out.keep hc (fun _ _ e => e))
    replace HC := hid (HC.out.t2 hc)
    replace HH := hid (hc.keep HH.out (fun e => e))
    replace HZ := hid (slt HH.out)
    replace H4 := hid (H4.out.keep hc (fun e => e))
    replace U4 := hid (uUp U4.out hc)
    clear hc hHeld
    have hHeld := HH.out
    refine ⟨_, rfl, hHeld, ?_⟩
    simp only [sA, sB, sC]
    refine step2 5 6 (by kernel_rfl) ?_ ?_
    ·skip
     refine stNew 5 11 (.map (some v18.heap.size)) (.map #[] 0) rfl rfl (by rfl) (by go_simp) ?_
     have hc := Chg.alloc v18 (.map #[] 0) No
     have hk := SetAt.made v18
     have hs := World.size_alloc v18 (.map #[] 0)
     obtain ⟨v19, he⟩ : ∃ y, y = v18.alloc (.map #[] 0) := ⟨_, rfl⟩
     rw [← he] at hc hk hs ⊢
     obtain ⟨vb, hb⟩ : ∃ y, y = v18.heap.size := ⟨_, rfl⟩
     rw [← hb] at hk ⊢
     have H5 := hid hk
     have U5 : Hid (w.heap.size ≤ vb ∧ vb < v19.heap.size) := hid ⟨by have := HZ.out; omega, by omega⟩
     have D45 : Hid (cb < vb) := hid (by have := U4.out.2; omega)
     have D35 : Hid (g < vb) := hid (by have := U3.out.2; omega)
     replace HM := hid (HM.out.keep hc (fun _ _ e => e))
     replace HC := hid (HC.out.t2 hc)
     replace HH := hid (hc.keep HH.out (fun e => e))
     replace HZ := hid (slt HH.out)
     replace H4 := hid (H4.out.keep hc (fun e => e))
     replace U4 := hid (uUp U4.out hc)
     replace H3 := hid (H3.out.keep hc (fun e => e))
     replace U3 := hid (uUp U3.out hc)
     clear hc hk hs he hb hHeld
     have hHeld := HH.out
     refine ⟨hHeld, ?_⟩
     simp only [sA, sB, sC]
     refine step1 6 (by kernel_rfl) ?_
     ·skip
      refine stNew 6 12 (.map (some v19.heap.size)) (.map #[] 0) rfl rfl (by rfl) (by go_simp) ?_
      have hc := Chg.alloc v19 (.map #[] 0) No
      have hk := MapV.made v19
      have hs := World.size_alloc v19 (.map #[] 0)
      obtain ⟨v20, he⟩ : ∃ y, y = v19.alloc (.map #[] 0) := ⟨_, rfl⟩
      rw [← he] at hc hk hs ⊢
      obtain ⟨tb, hb⟩ : ∃ y, y = v19.heap.size := ⟨_, rfl⟩
      rw [← hb] at hk ⊢
      have H6 := hid hk
      have U6 : Hid (w.heap.size ≤ tb ∧ tb < v20.heap.size) := hid ⟨by have := HZ.out; omega, by omega⟩
      have D46 : Hid (cb < tb) := hid (by have := U4.out.2; omega)
      have D36 : Hid (g < tb) := hid (by have := U3.out.2; omega)
      have D56 : Hid (vb < tb) := hid (by have := U5.out.2; omega)
      replace HM := hid (HM.out.keep hc (fun _ _ e => e))
      replace HC := hid (HC.out.t2 hc)
      replace HH := hid (hc.keep HH.out (fun e => e))
      replace HZ := hid (slt HH.out)
      replace H4 := hid (H4.out.keep hc (fun e => e))
      replace U4 := hid (uUp U4.out hc)
      replace H3 := hid (H3.out.keep hc (fun e => e))
      replace U3 := hid (uUp U3.out hc)
      replace H5 := hid (H5.out.keep hc (fun e => e))
      replace U5 := hid (uUp U5.out hc)
      clear hc hk hs he hb hHeld
      have hHeld := HH.out
      refine ⟨hHeld, ?_⟩
      simp only [sA, sB, sC]
      refine tV 7 13 (.agg (look0 N M (some ⟨b, o, none⟩) ic g wc cb vb tb)) rfl (by kernel_rfl) rfl (by rfl) (fun _ _ _ h => h) hHeld (fun W' hw' => by unfold look0; go_simp) ?_
      simp only [sA, sB, sC]
      refine step1 8 (by kernel_rfl) ?_
      refine stNew 8 14 (.pointer (some ⟨v20.heap.size, 0, none⟩)) (.cells (look0 N M (some ⟨b, o, none⟩) ic g wc cb vb tb) 87) rfl rfl (by rfl) (by unfold look0; go_simp) ?_
      have hc := Chg.alloc v20 (.cells (look0 N M (some ⟨b, o, none⟩) ic g wc cb vb tb) 87) No
      have hk := heap_alloc_new v20 (.cells (look0 N M (some ⟨b, o, none⟩) ic g wc cb vb tb) 87)
      obtain ⟨vz, he⟩ : ∃ y, y = v20.alloc (.cells (look0 N M (some ⟨b, o, none⟩) ic g wc cb vb tb) 87) := ⟨_, rfl⟩
      rw [← he] at hc hk ⊢
      have HP : Hid (Beg w vz N M (some ⟨b, o, none⟩) ic im v20.heap.size g wc cb vb tb) := hid ⟨hk, HM.out.keep hc (fun _ _ e => e), H3.out.keep hc (fun e => e), H4.out.keep hc (fun e => e), H5.out.keep hc (fun e => e), H6.out.keep hc (fun e => e), U3.out.1, U4.out.1, U5.out.1, U6.out.1, by have := D45.out; omega, by have := D46.out; omega, by have := D56.out; omega, by have := HZ.out; omega, HC.out.trans hc (fun _ _ e => e) (fun _ _ e => e)⟩
      have hHeld : vz.heap[w.heap.size]? = _ := hc.keep HH.out (fun e => e)
      refine ⟨hHeld, ?_⟩
      simp only [sA, sB, sC]
      refine tV 9 5 (.pointer (some ⟨v20.heap.size, 0, none⟩)) rfl (by kernel_rfl) rfl (by rfl) (fun _ _ _ h => h) hHeld (fun W' hw' => rfl) ?_
      simp only [sA, sB, sC]
      refine wpAnyH_done (by kernel_rfl) ?_ _
      refine NoPanic.normal ?_
      clear hHeld he hc hk
      go_wp2_with fail
      go_meet
      case rel => exact ⟨_, _, _, _, _, _, rfl, HP⟩
    ·skip
     refine stNew 6 12 (.map (some v18.heap.size)) (.map #[] 0) rfl rfl (by rfl) (by go_simp) ?_
     have hc := Chg.alloc v18 (.map #[] 0) No
     have hk := MapV.made v18
     have hs := World.size_alloc v18 (.map #[] 0)
     obtain ⟨v21, he⟩ : ∃ y, y = v18.alloc (.map #[] 0) := ⟨_, rfl⟩
     rw [← he] at hc hk hs ⊢
     obtain ⟨tb, hb⟩ : ∃ y, y = v18.heap.size := ⟨_, rfl⟩
     rw [← hb] at hk ⊢
     have H6 := hid hk
     have U6 : Hid (w.heap.size ≤ tb ∧ tb < v21.heap.size) := hid ⟨by have := HZ.out; omega, by omega⟩
     have D46 : Hid (cb < tb) := hid (by have := U4.out.2; omega)
     have D36 : Hid (g < tb) := hid (by have := U3.out.2; omega)
     replace HM := hid (HM.out.keep hc (fun _ _ e => e))
     replace HC := hid (HC.out.t2 hc)
     replace HH := hid (hc.keep HH.out (fun e => e))
     replace HZ := hid (slt HH.out)
     replace H4 := hid (H4.out.keep hc (fun e => e))
     replace U4 := hid (uUp U4.out hc)
     replace H3 := hid (H3.out.keep hc (fun e => e))
     replace U3 := hid (uUp U3.out hc)
     clear hc hk hs he hb hHeld
     have hHeld := HH.out
     refine ⟨hHeld, ?_⟩
     simp only [sA, sB, sC]
     refine step1 5 (by kernel_rfl) ?_
     ·skip
      refine stNew 5 11 (.map (some v21.heap.size)) (.map #[] 0) rfl rfl (by rfl) (by go_simp) ?_
      have hc := Chg.alloc v21 (.map #[] 0) No
      have hk := SetAt.made v21
      have hs := World.size_alloc v21 (.map #[] 0)
      obtain ⟨v22, he⟩ : ∃ y, y = v21.alloc (.map #[] 0) := ⟨_, rfl⟩
      rw [← he] at hc hk hs ⊢
      obtain ⟨vb, hb⟩ : ∃ y, y = v21.heap.size := ⟨_, rfl⟩
      rw [← hb] at hk ⊢
      have H5 := hid hk
      have U5 : Hid (w.heap.size ≤ vb ∧ vb < v22.heap.size) := hid ⟨by have := HZ.out; omega, by omega⟩
      have D45 : Hid (cb < vb) := hid (by have := U4.out.2; omega)
      have D35 : Hid (g < vb) := hid (by have := U3.out.2; omega)
      have D65 : Hid (tb < vb) := hid (by have := U6.out.2; omega)
      replace HM := hid (HM.out.keep hc (fun _ _ e => e))
      replace HC := hid (HC.out.t2 hc)
      replace HH := hid (hc.keep HH.out (fun e => e))
      replace HZ := hid (slt HH.out)
      replace H4 := hid (H4.out.keep hc (fun e => e))
      replace U4 := hid (uUp U4.out hc)
      replace H3 := hid (H3.out.keep hc (fun e => e))
      replace U3 := hid (uUp U3.out hc)
      replace H6 := hid (H6.out.keep hc (fun e => e))
      replace U6 := hid (uUp U6.out hc)
      clear hc hk hs he hb hHeld
      have hHeld := HH.out
      refine ⟨hHeld, ?_⟩
      simp only [sA, sB, sC]
      refine tV 7 13 (.agg (look0 N M (some ⟨b, o, none⟩) ic g wc cb vb tb)) rfl (by kernel_rfl) rfl (by rfl) (fun _ _ _ h => h) hHeld (fun W' hw' => by unfold look0; go_simp) ?_
      simp only [sA, sB, sC]
      refine step1 8 (by kernel_rfl) ?_
      refine stNew 8 14 (.pointer (some ⟨v22.heap.size, 0, none⟩)) (.cells (look0 N M (some ⟨b, o, none⟩) ic g wc cb vb tb) 87) rfl rfl (by rfl) (by unfold look0; go_simp) ?_
      have hc := Chg.alloc v22 (.cells (look0 N M (some ⟨b, o, none⟩) ic g wc cb vb tb) 87) No
      have hk := heap_alloc_new v22 (.cells (look0 N M (some ⟨b, o, none⟩) ic g wc cb vb tb) 87)
      obtain ⟨vz, he⟩ : ∃ y, y = v22.alloc (.cells (look0 N M (some ⟨b, o, none⟩) ic g wc cb vb tb) 87) := ⟨_, rfl⟩
      rw [← he] at hc hk ⊢
      have HP : Hid (Beg w vz N M (some ⟨b, o, none⟩) ic im v22.heap.size g wc cb vb tb) := hid ⟨hk, HM.out.keep hc (fun _ _ e => e), H3.out.keep hc (fun e => e), H4.out.keep hc (fun e => e), H5.out.keep hc (fun e => e), H6.out.keep hc (fun e => e), U3.out.1, U4.out.1, U5.out.1, U6.out.1, by have := D45.out; omega, by have := D46.out; omega, by have := D65.out; omega, by have := HZ.out; omega, HC.out.trans hc (fun _ _ e => e) (fun _ _ e => e)⟩
      have hHeld : vz.heap[w.heap.size]? = _ := hc.keep HH.out (fun e => e)
      refine ⟨hHeld, ?_⟩
      simp only [sA, sB, sC]
      refine tV 9 5 (.pointer (some ⟨v22.heap.size, 0, none⟩)) rfl (by kernel_rfl) rfl (by rfl) (fun _ _ _ h => h) hHeld (fun W' hw' => rfl) ?_
      simp only [sA, sB, sC]
      refine wpAnyH_done (by kernel_rfl) ?_ _
      refine NoPanic.normal ?_
      clear hHeld he hc hk
      go_wp2_with fail
      go_meet
      case rel => exact ⟨_, _, _, _, _, _, rfl, HP⟩
   ·skip
    refine stNew 5 11 (.map (some v17.heap.size)) (.map #[] 0) rfl rfl (by rfl) (by go_simp) ?_
    have hc := Chg.alloc v17 (.map #[] 0) No
    have hk := SetAt.made v17
    have hs := World.size_alloc v17 (.map #[] 0)
    obtain ⟨v23, he⟩ : ∃ y, y = v17.alloc (.map #[] 0) := ⟨_, rfl⟩
    rw [← he] at hc hk hs ⊢
    obtain ⟨vb, hb⟩ : ∃ y, y = v17.heap.size := ⟨_, rfl⟩
    rw [← hb] at hk ⊢
    have H5 := hid hk
    have U5 : Hid (w.heap.size ≤ vb ∧ vb < v23.heap.size) := hid ⟨by have := HZ.out; omega, by omega⟩
    have D45 : Hid (cb < vb) := hid (by have := U4.out.2; omega)
    replace HM := hid (HM.out.keep hc (fun _ _ e => e))
    replace HC := hid (HC.out.t2 hc)
    replace HH := hid (hc.keep HH.out (fun e => e))
    replace HZ := hid (slt HH.out)
    replace H4 := hid (H4.out.keep hc (fun e => e))
    replace U4 := hid (uUp U4.out hc)
    clear hc hk hs he hb hHeld
    have hHeld := HH.out
    refine ⟨hHeld, ?_⟩
    simp only [sA, sB, sC]
    refine step2 3 6 (by kernel_rfl) ?_ ?_
    ·skip
     refine stCall 3 9 48 #[.slice (some ⟨b, o, none⟩) N ic] _ rfl rfl (by rfl) (by go_simp) (by have hk := clone_any (ic := ic) HM.out (by have := HB.out.1; have := HL.out; omega) (by have := HB.out.2.1; have := HL.out; omega); rw [HL.out] at hk; exact hk) ?_
     rintro e v24 ⟨g, wc, rfl, hg, hW, hc⟩
     have H3 := hid hW
     have U3 : Hid (w.heap.size ≤ g ∧ g < v24.heap.size) := hid ⟨by have := HZ.out; omega, hW.lt⟩
     have D43 : Hid (cb < g) := hid (by have := U4.out.2; omega)
     have D53 : Hid (vb < g) := hid (by have := U5.out.2; omega)
     clear hg hW
     replace HM := hid (HM.out.keep hc (fun _ _ e => e))
     replace HC := hid (HC.out.t2 hc)
     replace HH := hid (hc.keep HH.out (fun e => e))
     replace HZ := hid (slt HH.out)
     replace H4 := hid (H4.out.keep hc (fun e => e))
     replace U4 := hid (uUp U4.out hc)
     replace H5 := hid (H5.out.keep hc (fun e => e))
     replace U5 := hid (uUp U5.out hc)
     clear hc hHeld
     have hHeld := HH.out
     refine ⟨_, rfl, hHeld, ?_⟩
     simp only [sA, sB, sC]
     refine step1 6 (by kernel_rfl) ?_
     ·skip
      refine stNew 6 12 (.map (some v24.heap.size)) (.map #[] 0) rfl rfl (by rfl) (by go_simp) ?_
      have hc := Chg.alloc v24 (.map #[] 0) No
      have hk := MapV.made v24
      have hs := World.size_alloc v24 (.map #[] 0)
      obtain ⟨v25, he⟩ : ∃ y, y = v24.alloc (.map #[] 0) := ⟨_, rfl⟩
      rw [← he] at hc hk hs ⊢
      obtain ⟨tb, hb⟩ : ∃ y, y = v24.heap.size := ⟨_, rfl⟩
      rw [← hb] at hk ⊢
      have H6 := hid hk
      have U6 : Hid (w.heap.size ≤ tb ∧ tb < v25.heap.size) := hid ⟨by have := HZ.out; omega, by omega⟩
      have D46 : Hid (cb < tb) := hid (by have := U4.out.2; omega)
      have D56 : Hid (vb < tb) := hid (by have := U5.out.2; omega)
      have D36 : Hid (g < tb) := hid (by have := U3.out.2; omega)
      replace HM := hid (HM.out.keep hc (fun _ _ e => e))
      replace HC := hid (HC.out.t2 hc)
      replace HH := hid (hc.keep HH.out (fun e => e))
      replace HZ := hid (slt HH.out)
      replace H4 := hid (H4.out.keep hc (fun e => e))
      replace U4 := hid (uUp U4.out hc)
      replace H5 := hid (H5.out.keep hc (fun e => e))
      replace U5 := hid (uUp U5.out hc)
      replace H3 := hid (H3.out.keep hc (fun e => e))
      replace U3 := hid (uUp U3.out hc)
      clear hc hk hs he hb hHeld
      have hHeld := HH.out
      refine ⟨hHeld, ?_⟩
      simp only [sA, sB, sC]
      refine tV 7 13 (.agg (look0 N M (some ⟨b, o, none⟩) ic g wc cb vb tb)) rfl (by kernel_rfl) rfl (by rfl) (fun _ _ _ h => h) hHeld (fun W' hw' => by unfold look0; go_simp) ?_
      simp only [sA, sB, sC]
      refine step1 8 (by kernel_rfl) ?_
      refine stNew 8 14 (.pointer (some ⟨v25.heap.size, 0, none⟩)) (.cells (look0 N M (some ⟨b, o, none⟩) ic g wc cb vb tb) 87) rfl rfl (by rfl) (by unfold look0; go_simp) ?_
      have hc := Chg.alloc v25 (.cells (look0 N M (some ⟨b, o, none⟩) ic g wc cb vb tb) 87) No
      have hk := heap_alloc_new v25 (.cells (look0 N M (some ⟨b, o, none⟩) ic g wc cb vb tb) 87)
      obtain ⟨vz, he⟩ : ∃ y, y = v25.alloc (.cells (look0 N M (some ⟨b, o, none⟩) ic g wc cb vb tb) 87) := ⟨_, rfl⟩
      rw [← he] at hc hk ⊢
      have HP : Hid (Beg w vz N M (some ⟨b, o, none⟩) ic im v25.heap.size g wc cb vb tb) := hid ⟨hk, HM.out.keep hc (fun _ _ e => e), H3.out.keep hc (fun e => e), H4.out.keep hc (fun e => e), H5.out.keep hc (fun e => e), H6.out.keep hc (fun e => e), U3.out.1, U4.out.1, U5.out.1, U6.out.1, by have := D45.out; omega, by have := D46.out; omega, by have := D56.out; omega, by have := HZ.out; omega, HC.out.trans hc (fun _ _ e => e) (fun _ _ e => e)⟩
      have hHeld : vz.heap[w.heap.size]? = _ := hc.keep HH.out (fun e => e)
      refine ⟨hHeld, ?_⟩
      simp only [sA, sB, sC]
      refine tV 9 5 (.pointer (some ⟨v25.heap.size, 0, none⟩)) rfl (by kernel_rfl) rfl (by rfl) (fun _ _ _ h => h) hHeld (fun W' hw' => rfl) ?_
      simp only [sA, sB, sC]
      refine wpAnyH_done (by kernel_rfl) ?_ _
      refine NoPanic.normal ?_
      clear hHeld he hc hk
      go_wp2_with fail
      go_meet
      case rel => exact ⟨_, _, _, _, _, _, rfl, HP⟩
    ·skip
     refine stNew 6 12 (.map (some v23.heap.size)) (.map #[] 0) rfl rfl (by rfl) (by go_simp) ?_
     have hc := Chg.alloc v23 (.map #[] 0) No
     have hk := MapV.made v23
     have hs := World.size_alloc v23 (.map #[] 0)
     obtain ⟨v26, he⟩ : ∃ y, y = v23.alloc (.map #[] 0) := ⟨_, rfl⟩
     rw [← he] at hc hk hs ⊢
     obtain ⟨tb, hb⟩ : ∃ y, y = v23.heap.size := ⟨_, rfl⟩
     rw [← hb] at hk ⊢
     have H6 := hid hk
     have U6 : Hid (w.heap.size ≤ tb ∧ tb < v26.heap.size) := hid ⟨by have := HZ.out; omega, by omega⟩
     have D46 : Hid (cb < tb) := hid (by have := U4.out.2; omega)
     have D56 : Hid (vb < tb) := hid (by have := U5.out.2; omega)
     replace HM := hid (HM.out.keep hc (fun _ _ e => e))
     replace HC := hid (HC.out.t2 hc)
     replace HH := hid (hc.keep HH.out (fun e => e))
     replace HZ := hid (slt HH.out)
     replace H4 := hid (H4.out.keep hc (fun e => e))
     replace U4 := hid (uUp U4.out hc)
     replace H5 := hid (H5.out.keep hc (fun e => e))
     replace U5 := hid (uUp U5.out hc)
     clear hc hk hs he hb hHeld
     have hHeld := HH.out
     refine ⟨hHeld, ?_⟩
     simp only [sA, sB, sC]
     refine step1 3 (by kernel_rfl) ?_
     ·skip
      refine stCall 3 9 48 #[.slice (some ⟨b, o, none⟩) N ic] _ rfl rfl (by rfl) (by go_simp) (by have hk := clone_any (ic := ic) HM.out (by have := HB.out.1; have := HL.out; omega) (by have := HB.out.2.1; have := HL.out; omega); rw [HL.out] at hk; exact hk) ?_
      rintro e v27 ⟨g, wc, rfl, hg, hW, hc⟩
      have H3 := hid hW
      have U3 : Hid (w.heap.size ≤ g ∧ g < v27.heap.size) := hid ⟨by have := HZ.out; omega, hW.lt⟩
      have D43 : Hid (cb < g) := hid (by have := U4.out.2; omega)
      have D53 : Hid (vb < g) := hid (by have := U5.out.2; omega)
      have D63 : Hid (tb < g) := hid (by have := U6.out.2; omega)
      clear hg hW
      replace HM := hid (HM.out.keep hc (fun _ _ e => e))
      replace HC := hid (HC.out.t2 hc)
      replace HH := hid (hc.keep HH.out (fun e => e))
      replace HZ := hid (slt HH.out)
      replace H4 := hid (H4.out.keep hc (fun e => e))
      replace U4 := hid (uUp U4.out hc)
      replace H5 := hid (H5.out.keep hc (fun e => e))
      replace U5 := hid (uUp U5.out hc)
      replace H6 := hid (H6.out.keep hc (fun e => e))
      replace U6 := hid (uUp U6.out hc)
      clear hc hHeld
      have hHeld := HH.out
      refine ⟨_, rfl, hHeld, ?_⟩
      simp only [sA, sB, sC]
      refine tV 7 13 (.agg (look0 N M (some ⟨b, o, none⟩) ic g wc cb vb tb)) rfl (by kernel_rfl) rfl (by rfl) (fun _ _ _ h => h) hHeld (fun W' hw' => by unfold look0; go_simp) ?_
      simp only [sA, sB, sC]
      refine step1 8 (by kernel_rfl) ?_
      refine stNew 8 14 (.pointer (some ⟨v27.heap.size, 0, none⟩)) (.cells (look0 N M (some ⟨b, o, none⟩) ic g wc cb vb tb) 87) rfl rfl (by rfl) (by unfold look0; go_simp) ?_
      have hc := Chg.alloc v27 (.cells (look0 N M (some ⟨b, o, none⟩) ic g wc cb vb tb) 87) No
      have hk := heap_alloc_new v27 (.cells (look0 N M (some ⟨b, o, none⟩) ic g wc cb vb tb) 87)
      obtain ⟨vz, he⟩ : ∃ y, y = v27.alloc (.cells (look0 N M (some ⟨b, o, none⟩) ic g wc cb vb tb) 87) := ⟨_, rfl⟩
      rw [← he] at hc hk ⊢
      have HP : Hid (Beg w vz N M (some ⟨b, o, none⟩) ic im v27.heap.size g wc cb vb tb) := hid ⟨hk, HM.out.keep hc (fun _ _ e => e), H3.out.keep hc (fun e => e), H4.out.keep hc (fun e => e), H5.out.keep hc (fun e => e), H6.out.keep hc (fun e => e), U3.out.1, U4.out.1, U5.out.1, U6.out.1, by have := D45.out; omega, by have := D46.out; omega, by have := D56.out; omega, by have := HZ.out; omega, HC.out.trans hc (fun _ _ e => e) (fun _ _ e => e)⟩
      have hHeld : vz.heap[w.heap.size]? = _ := hc.keep HH.out (fun e => e)
      refine ⟨hHeld, ?_⟩
      simp only [sA, sB, sC]
      refine tV 9 5 (.pointer (some ⟨v27.heap.size, 0, none⟩)) rfl (by kernel_rfl) rfl (by rfl) (fun _ _ _ h => h) hHeld (fun W' hw' => rfl) ?_
      simp only [sA, sB, sC]
      refine wpAnyH_done (by kernel_rfl) ?_ _
      refine NoPanic.normal ?_
      clear hHeld he hc hk
      go_wp2_with fail
      go_meet
      case rel => exact ⟨_, _, _, _, _, _, rfl, HP⟩
   ·skip
    refine stNew 6 12 (.map (some v17.heap.size)) (.map #[] 0) rfl rfl (by rfl) (by go_simp) ?_
    have hc := Chg.alloc v17 (.map #[] 0) No
    have hk := MapV.made v17
    have hs := World.size_alloc v17 (.map #[] 0)
    obtain ⟨v28, he⟩ : ∃ y, y = v17.alloc (.map #[] 0) := ⟨_, rfl⟩
    rw [← he] at hc hk hs ⊢
    obtain ⟨tb, hb⟩ : ∃ y, y = v17.heap.size := ⟨_, rfl⟩
    rw [← hb] at hk ⊢
    have H6 := hid hk
    have U6 : Hid (w.heap.size ≤ tb ∧ tb < v28.heap.size) := hid ⟨by have := HZ.out; omega, by omega⟩
    have D46 : Hid (cb < tb) := hid (by have := U4.out.2; omega)
    replace HM := hid (HM.out.keep hc (fun _ _ e => e))
    replace HC := hid (HC.out.t2 hc)
    replace HH := hid (hc.keep HH.out (fun e => e))
    replace HZ := hid (slt HH.out)
    replace H4 := hid (H4.out.keep hc (fun e => e))
    replace U4 := hid (uUp U4.out hc)
    clear hc hk hs he hb hHeld
    have hHeld := HH.out
    refine ⟨hHeld, ?_⟩
    simp only [sA, sB, sC]
    refine step2 3 5 (by kernel_rfl) ?_ ?_
    ·skip
     refine stCall 3 9 48 #[.slice (some ⟨b, o, none⟩) N ic] _ rfl rfl (by rfl) (by go_simp) (by have hk := clone_any (ic := ic) HM.out (by have := HB.out.1; have := HL.out; omega) (by have := HB.out.2.1; have := HL.out; omega); rw [HL.out] at hk; exact hk) ?_
     rintro e v29 ⟨g, wc, rfl, hg, hW, hc⟩
     have H3 := hid hW
     have U3 : Hid (w.heap.size ≤ g ∧ g < v29.heap.size) := hid ⟨by have := HZ.out; omega, hW.lt⟩
     have D43 : Hid (cb < g) := hid (by have := U4.out.2; omega)
     have D63 : Hid (tb < g) := hid (by have := U6.out.2; omega)
     clear hg hW
     replace HM := hid (HM.out.keep hc (fun _ _ e => e))
     replace HC := hid (HC.out.t2 hc)
     replace HH := hid (hc.keep HH.out (fun e => e))
     replace HZ := hid (slt HH.out)
     replace H4 := hid (H4.out.keep hc (fun e => e))
     replace U4 := hid (uUp U4.out hc)
     replace H6 := hid (H6.out.keep hc (fun e => e))
     replace U6 := hid (uUp U6.out hc)
     clear hc hHeld
     have hHeld := HH.out
     refine ⟨_, rfl, hHeld, ?_⟩
     simp only [sA, sB, sC]
     refine step1 5 (by kernel_rfl) ?_
     ·skip
      refine stNew 5 11 (.map (some v29.heap.size)) (.map #[] 0) rfl rfl (by rfl) (by go_simp) ?_
      have hc := Chg.alloc v29 (.map #[] 0) No
      have hk := SetAt.made v29
      have hs := World.size_alloc v29 (.map #[] 0)
      obtain ⟨v30, he⟩ : ∃ y, y = v29.alloc (.map #[] 0) := ⟨_, rfl⟩
      rw [← he] at hc hk hs ⊢
      obtain ⟨vb, hb⟩ : ∃ y, y = v29.heap.size := ⟨_, rfl⟩
      rw [← hb] at hk ⊢
      have H5 := hid hk
      have U5 : Hid (w.heap.size ≤ vb ∧ vb < v30.heap.size) := hid ⟨by have := HZ.out; omega, by omega⟩
      have D45 : Hid (cb < vb) := hid (by have := U4.out.2; omega)
      have D65 : Hid (tb < vb) := hid (by have := U6.out.2; omega)
      have D35 : Hid (g < vb) := hid (by have := U3.out.2; omega)
      replace HM := hid (HM.out.keep hc (fun _ _ e => e))
      replace HC := hid (HC.out.t2 hc)
      replace HH := hid (hc.keep HH.out (fun e => e))
      replace HZ := hid (slt HH.out)
      replace H4 := hid (H4.out.keep hc (fun e => e))
      replace U4 := hid (uUp U4.out hc)
      replace H6 := hid (H6.out.keep hc (fun e => e))
      replace U6 := hid (uUp U6.out hc)
      replace H3 := hid (H3.out.keep hc (fun e => e))
      replace U3 := hid (uUp U3.out hc)
      clear hc hk hs he hb hHeld
      have hHeld := HH.out
      refine ⟨hHeld, ?_⟩
      simp only [sA, sB, sC]
      refine tV 7 13 (.agg (look0 N M (some ⟨b, o, none⟩) ic g wc cb vb tb)) rfl (by kernel_rfl) rfl (by rfl) (fun _ _ _ h => h) hHeld (fun W' hw' => by unfold look0; go_simp) ?_
      simp only [sA, sB, sC]
      refine step1 8 (by kernel_rfl) ?_
      refine stNew 8 14 (.pointer (some ⟨v30.heap.size, 0, none⟩)) (.cells (look0 N M (some ⟨b, o, none⟩) ic g wc cb vb tb) 87) rfl rfl (by rfl) (by unfold look0; go_simp) ?_
      have hc := Chg.alloc v30 (.cells (look0 N M (some ⟨b, o, none⟩) ic g wc cb vb tb) 87) No
      have hk := heap_alloc_new v30 (.cells (look0 N M (some ⟨b, o, none⟩) ic g wc cb vb tb) 87)
      obtain ⟨vz, he⟩ : ∃ y, y = v30.alloc (.cells (look0 N M (some ⟨b, o, none⟩) ic g wc cb vb tb) 87) := ⟨_, rfl⟩
      rw [← he] at hc hk ⊢
      have HP : Hid (Beg w vz N M (some ⟨b, o, none⟩) ic im v30.heap.size g wc cb vb tb) := hid ⟨hk, HM.out.keep hc (fun _ _ e => e), H3.out.keep hc (fun e => e), H4.out.keep hc (fun e => e), H5.out.keep hc (fun e => e), H6.out.keep hc (fun e => e), U3.out.1, U4.out.1, U5.out.1, U6.out.1, by have := D45.out; omega, by have := D46.out; omega, by have := D65.out; omega, by have := HZ.out; omega, HC.out.trans hc (fun _ _ e => e) (fun _ _ e => e)⟩
      have hHeld : vz.heap[w.heap.size]? = _ := hc.keep HH.out (fun e => e)
      refine ⟨hHeld, ?_⟩
      simp only [sA, sB, sC]
      refine tV 9 5 (.pointer (some ⟨v30.heap.size, 0, none⟩)) rfl (by kernel_rfl) rfl (by rfl) (fun _ _ _ h => h) hHeld (fun W' hw' => rfl) ?_
      simp only [sA, sB, sC]
      refine wpAnyH_done (by kernel_rfl) ?_ _
      refine NoPanic.normal ?_
      clear hHeld he hc hk
      go_wp2_with fail
      go_meet
      case rel => exact ⟨_, _, _, _, _, _, rfl, HP⟩
    ·skip
     refine stNew 5 11 (.map (some v28.heap.size)) (.map #[] 0) rfl rfl (by rfl) (by go_simp) ?_
     have hc := Chg.alloc v28 (.map #[] 0) No
     have hk := SetAt.made v28
     have hs := World.size_alloc v28 (.map #[] 0)
     obtain ⟨v31, he⟩ : ∃ y, y = v28.alloc (.map #[] 0) := ⟨_, rfl⟩
     rw [← he] at hc hk hs ⊢
     obtain ⟨vb, hb⟩ : ∃ y, y = v28.heap.size := ⟨_, rfl⟩
     rw [← hb] at hk ⊢
     have H5 := hid hk
     have U5 : Hid (w.heap.size ≤ vb ∧ vb < v31.heap.size) := hid ⟨by have := HZ.out; omega, by omega⟩
     have D45 : Hid (cb < vb) := hid (by have := U4.out.2; omega)
     have D65 : Hid (tb < vb) := hid (by have := U6.out.2; omega)
     replace HM := hid (HM.out.keep hc (fun _ _ e => e))
     replace HC := hid (HC.out.t2 hc)
     replace HH := hid (hc.keep HH.out (fun e => e))
     replace HZ := hid (slt HH.out)
     replace H4 := hid (H4.out.keep hc (fun e => e))
     replace U4 := hid (uUp U4.out hc)
     replace H6 := hid (H6.out.keep hc (fun e => e))
     replace U6 := hid (uUp U6.out hc)
     clear hc hk hs he hb hHeld
     have hHeld := HH.out
     refine ⟨hHeld, ?_⟩
     simp only [sA, sB, sC]
     refine step1 3 (by kernel_rfl) ?_
     ·skip
      refine stCall 3 9 48 #[.slice (some ⟨b, o, none⟩) N ic] _ rfl rfl (by rfl) (by go_simp) (by have hk := clone_any (ic := ic) HM.out (by have := HB.out.1; have := HL.out; omega) (by have := HB.out.2.1; have := HL.out; omega); rw [HL.out] at hk; exact hk) ?_
      rintro e v32 ⟨g, wc, rfl, hg, hW, hc⟩
      have H3 := hid hW
      have U3 : Hid (w.heap.size ≤ g ∧ g < v32.heap.size) := hid ⟨by have := HZ.out; omega, hW.lt⟩
      have D43 : Hid (cb < g) := hid (by have := U4.out.2; omega)
      have D63 : Hid (tb < g) := hid (by have := U6.out.2; omega)
      have D53 : Hid (vb < g) := hid (by have := U5.out.2; omega)
      clear hg hW
      replace HM := hid (HM.out.keep hc (fun _ _ e => e))
      replace HC := hid (HC.out.t2 hc)
      replace HH := hid (hc.keep HH.out (fun e => e))
      replace HZ := hid (slt HH.out)
      replace H4 := hid (H4.out.keep hc (fun e => e))
      replace U4 := hid (uUp U4.out hc)
      replace H6 := hid (H6.out.keep hc (fun e => e))
      replace U6 := hid (uUp U6.out hc)
      replace H5 := hid (H5.out.keep hc (fun e => e))
      replace U5 := hid (uUp U5.out hc)
      clear hc hHeld
      have hHeld := HH.out
      refine ⟨_, rfl, hHeld, ?_⟩
      simp only [sA, sB, sC]
      refine tV 7 13 (.agg (look0 N M (some ⟨b, o, none⟩) ic g wc cb vb tb)) rfl (by kernel_rfl) rfl (by rfl) (fun _ _ _ h => h) hHeld (fun W' hw' => by unfold look0; go_simp) ?_
      simp only [sA, sB, sC]
      refine step1 8 (by kernel_rfl) ?_
      refine stNew 8 14 (.pointer (some ⟨v32.heap.size, 0, none⟩)) (.cells (look0 N M (some ⟨b, o, none⟩) ic g wc cb vb tb) 87) rfl rfl (by rfl) (by unfold look0; go_simp) ?_
      have hc := Chg.alloc v32 (.cells (look0 N M (some ⟨b, o, none⟩) ic g wc cb vb tb) 87) No
      have hk := heap_alloc_new v32 (.cells (look0 N M (some ⟨b, o, none⟩) ic g wc cb vb tb) 87)
      obtain ⟨vz, he⟩ : ∃ y, y = v32.alloc (.cells (look0 N M (some ⟨b, o, none⟩) ic g wc cb vb tb) 87) := ⟨_, rfl⟩
      rw [← he] at hc hk ⊢
      have HP : Hid (Beg w vz N M (some ⟨b, o, none⟩) ic im v32.heap.size g wc cb vb tb) := hid ⟨hk, HM.out.keep hc (fun _ _ e => e), H3.out.keep hc (fun e => e), H4.out.keep hc (fun e => e), H5.out.keep hc (fun e => e), H6.out.keep hc (fun e => e), U3.out.1, U4.out.1, U5.out.1, U6.out.1, by have := D45.out; omega, by have := D46.out; omega, by have := D65.out; omega, by have := HZ.out; omega, HC.out.trans hc (fun _ _ e => e) (fun _ _ e => e)⟩
      have hHeld : vz.heap[w.heap.size]? = _ := hc.keep HH.out (fun e => e)
      refine ⟨hHeld, ?_⟩
      simp only [sA, sB, sC]
      refine tV 9 5 (.pointer (some ⟨v32.heap.size, 0, none⟩)) rfl (by kernel_rfl) rfl (by rfl) (fun _ _ _ h => h) hHeld (fun W' hw' => rfl) ?_
      simp only [sA, sB, sC]
      refine wpAnyH_done (by kernel_rfl) ?_ _
      refine NoPanic.normal ?_
      clear hHeld he hc hk
      go_wp2_with fail
      go_meet
      case rel => exact ⟨_, _, _, _, _, _, rfl, HP⟩
  ·skip
   refine stNew 5 11 (.map (some v.heap.size)) (.map #[] 0) rfl rfl (by rfl) (by go_simp) ?_
   have hc := Chg.alloc v (.map #[] 0) No
   have hk := SetAt.made v
   have hs := World.size_alloc v (.map #[] 0)
   obtain ⟨v33, he⟩ : ∃ y, y = v.alloc (.map #[] 0) := ⟨_, rfl⟩
   rw [← he] at hc hk hs ⊢
   obtain ⟨vb, hb⟩ : ∃ y, y = v.heap.size := ⟨_, rfl⟩
   rw [← hb] at hk ⊢
   have H5 := hid hk
   have U5 : Hid (w.heap.size ≤ vb ∧ vb < v33.heap.size) := hid ⟨by have := HZ.out; omega, by omega⟩
   replace HM := hid (HM.out.keep hc (fun _ _ e => e))
   replace HC := hid (HC.out.t2 hc)
   replace HH := hid (hc.keep HH.out (fun e => e))
   replace HZ := hid (slt HH.out)
   clear hc hk hs he hb hHeld
   have hHeld := HH.out
   refine ⟨hHeld, ?_⟩
   simp only [sA, sB, sC]
   refine step3 3 4 6 (by kernel_rfl) ?_ ?_ ?_
   ·skip
    refine stCall 3 9 48 #[.slice (some ⟨b, o, none⟩) N ic] _ rfl rfl (by rfl) (by go_simp) (by have hk := clone_any (ic := ic) HM.out (by have := HB.out.1; have := HL.out; omega) (by have := HB.out.2.1; have := HL.out; omega); rw [HL.out] at hk; exact hk) ?_
    rintro e v34 ⟨g, wc, rfl, hg, hW, hc⟩
    have H3 := hid hW
    have U3 : Hid (w.heap.size ≤ g ∧ g < v34.heap.size) := hid ⟨by have := HZ.out; omega, hW.lt⟩
    have D53 : Hid (vb < g) := hid (by have := U5.out.2; omega)
    clear hg hW
    replace HM := hid (HM.out.keep hc (fun _ _ e => e))
    replace HC := hid (HC.out.t2 hc)
    replace HH := hid (hc.keep HH.out (fun e => e))
    replace HZ := hid (slt HH.out)
    replace H5 := hid (H5.out.keep hc (fun e => e))
    replace U5 := hid (uUp U5.out hc)
    clear hc hHeld
    have hHeld := HH.out
    refine ⟨_, rfl, hHeld, ?_⟩
    simp only [sA, sB, sC]
    refine step2 4 6 (by kernel_rfl) ?_ ?_
    ·skip
     refine stNew 4 10 (.map (some v34.heap.size)) (.map #[] 0) rfl rfl (by rfl) (by go_simp) ?_
     have hc := Chg.alloc v34 (.map #[] 0) No
     have hk := SetAt.made v34
     have hs := World.size_alloc v34 (.map #[] 0)
     obtain ⟨v35, he⟩ : ∃ y, y = v34.alloc (.map #[] 0) := ⟨_, rfl⟩
     rw [← he] at hc hk hs ⊢
     obtain ⟨cb, hb⟩ : ∃ y, y = v34.heap.size := ⟨_, rfl⟩
     rw [← hb] at hk ⊢
     have H4 := hid hk
     have U4 : Hid (w.heap.size ≤ cb ∧ cb < v35.heap.size) := hid ⟨by have := HZ.out; omega, by omega⟩
     have D54 : Hid (vb < cb) := hid (by have := U5.out.2; omega)
     have D34 : Hid (g < cb) := hid (by have := U3.out.2; omega)
     replace HM := hid (HM.out.keep hc (fun _ _ e => e))
     replace HC := hid (HC.out.t2 hc)
     replace HH := hid (hc.keep HH.out (fun e => e))
     replace HZ := hid (slt HH.out)
     replace H5 := hid (H5.out.keep hc (fun e => e))
     replace U5 := hid (uUp U5.out hc)
     replace H3 := hid (H3.out.keep hc (fun e => e))
     replace U3 := hid (uUp U3.out hc)
     clear hc hk hs he hb hHeld
     have hHeld := HH.out
     refine ⟨hHeld, ?_⟩
     simp only [sA, sB, sC]
     refine step1 6 (by kernel_rfl) ?_
     ·skip
      refine stNew 6 12 (.map (some v35.heap.size)) (.map #[] 0) rfl rfl (by rfl) (by go_simp) ?_
      have hc := Chg.alloc v35 (.map #[] 0) No
      have hk := MapV.made v35
      have hs := World.size_alloc v35 (.map #[] 0)
      obtain ⟨v36, he⟩ : ∃ y, y = v35.alloc (.map #[] 0) := ⟨_, rfl⟩
      rw [← he] at hc hk hs ⊢
      obtain ⟨tb, hb⟩ : ∃ y, y = v35.heap.size := ⟨_, rfl⟩
      rw [← hb] at hk ⊢
      have H6 := hid hk
      have U6 : Hid (w.heap.size ≤ tb ∧ tb < v36.heap.size) := hid ⟨by have := HZ.out; omega, by omega⟩
      have D56 : Hid (vb < tb) := hid (by have := U5.out.2; omega)
      have D36 : Hid (g < tb) := hid (by have := U3.out.2; omega)
      have D46 : Hid (cb < tb) := hid (by have := U4.out.2; omega)
      replace HM := hid (HM.out.keep hc (fun _ _ e => e))
      replace HC := hid (HC.out.t2 hc)
      replace HH := hid (hc.keep HH.out (fun e => e))
      replace HZ := hid (slt HH.out)
      replace H5 := hid (H5.out.keep hc (fun e => e))
      replace U5 := hid (uUp U5.out hc)
      replace H3 := hid (H3.out.keep hc (fun e => e))
      replace U3 := hid (uUp U3.out hc)
      replace H4 := hid (H4.out.keep hc (fun e => e))
      replace U4 := hid (uUp U4.out hc)
      clear hc hk hs he hb hHeld
      have hHeld := HH.out
      refine ⟨hHeld, ?_⟩
      simp only [sA, sB, sC]
      refine tV 7 13 (.agg (look0 N M (some ⟨b, o, none⟩) ic g wc cb vb tb)) rfl (by kernel_rfl) rfl (by rfl) (fun _ _ _ h => h) hHeld (fun W' hw' => by unfold look0; go_simp) ?_
      simp only [sA, sB, sC]
      refine step1 8 (by kernel_rfl) ?_
      refine stNew 8 14 (.pointer (some ⟨v36.heap.size, 0, none⟩)) (.cells (look0 N M (some ⟨b, o, none⟩) ic g wc cb vb tb) 87) rfl rfl (by rfl) (by unfold look0; go_simp) ?_
      have hc := Chg.alloc v36 (.cells (look0 N M (some ⟨b, o, none⟩) ic g wc cb vb tb) 87) No
      have hk := heap_alloc_new v36 (.cells (look0 N M (some ⟨b, o, none⟩) ic g wc cb vb tb) 87)
      obtain ⟨vz, he⟩ : ∃ y, y = v36.alloc (.cells (look0 N M (some ⟨b, o, none⟩) ic g wc cb vb tb) 87) := ⟨_, rfl⟩
      rw [← he] at hc hk ⊢
      have HP : Hid (Beg w vz N M (some ⟨b, o, none⟩) ic im v36.heap.size g wc cb vb tb) := hid ⟨hk, HM.out.keep hc (fun _ _ e => e), H3.out.keep hc (fun e => e), H4.out.keep hc (fun e => e), H5.out.keep hc (fun e => e), H6.out.keep hc (fun e => e), U3.out.1, U4.out.1, U5.out.1, U6.out.1, by have := D54.out; omega, by have := D46.out; omega, by have := D56.out; omega, by have := HZ.out; omega, HC.out.trans hc (fun _ _ e => e) (fun _ _ e => e)⟩
      have hHeld : vz.heap[w.heap.size]? = _ := hc.keep HH.out (fun e => e)
      refine ⟨hHeld, ?_⟩
      simp only [sA, sB, sC]
      refine tV 9 5 (.pointer (some ⟨v36.heap.size, 0, none⟩)) rfl (by kernel_rfl) rfl (by rfl) (fun _ _ _ h => h) hHeld (fun W' hw' => rfl) ?_
      simp only [sA, sB, sC]
      refine wpAnyH_done (by kernel_rfl) ?_ _
      refine NoPanic.normal ?_
      clear hHeld he hc hk
      go_wp2_with fail
      go_meet
      case rel => exact ⟨_, _, _, _, _, _, rfl, HP⟩
    ·skip
     refine stNew 6 12 (.map (some v34.heap.size)) (.map #[] 0) rfl rfl (by rfl) (by go_simp) ?_
     have hc := Chg.alloc v34 (.map #[] 0) No
     have hk := MapV.made v34
     have hs := World.size_alloc v34 (.map #[] 0)
     obtain ⟨v37, he⟩ : ∃ y, y = v34.alloc (.map #[] 0) := ⟨_, rfl⟩
     rw [← he] at hc hk hs ⊢
     obtain ⟨tb, hb⟩ : ∃ y, y = v34.heap.size := ⟨_, rfl⟩
     rw [← hb] at hk ⊢
     have H6 := hid hk
     have U6 : Hid (w.heap.size ≤ tb ∧ tb < v37.heap.size) := hid ⟨by have := HZ.out; omega, by omega⟩
     have D56 : Hid (vb < tb) := hid (by have := U5.out.2; omega)
     have D36 : Hid (g < tb) := hid (by have := U3.out.2; omega)
     replace HM := hid (HM.out.keep hc (fun _ _ e => e))
     replace HC := hid (HC.out.t2 hc)
     replace HH := hid (hc.keep HH.out (fun e => e))
     replace HZ := hid (slt HH.out)
     replace H5 := hid (H5.out.keep hc (fun e => e))
     replace U5 := hid (uUp U5.out hc)
     replace H3 := hid (H3.out.keep hc (fun e => e))
     replace U3 := hid (uUp U3.out hc)
     clear hc hk hs he hb hHeld
     have hHeld := HH.out
     refine ⟨hHeld, ?_⟩
     simp only [sA, sB, sC]
     refine step1 4 (by kernel_rfl) ?_
     ·skip
      refine stNew 4 10 (.map (some v37.heap.size)) (.map #[] 0) rfl rfl (by rfl) (by go_simp) ?_
      have hc := Chg.alloc v37 (.map #[] 0) No
      have hk := SetAt.made v37
      have hs := World.size_alloc v37 (.map #[] 0)
      obtain ⟨v38, he⟩ : ∃ y, y = v37.alloc (.map #[] 0) := ⟨_, rfl⟩
      rw [← he] at hc hk hs ⊢
      obtain ⟨cb, hb⟩ : ∃ y, y = v37.heap.size := ⟨_, rfl⟩
      rw [← hb] at hk ⊢
      have H4 := hid hk
      have U4 : Hid (w.heap.size ≤ cb ∧ cb < v38.heap.size) := hid ⟨by have := HZ.out; omega, by omega⟩
      have D54 : Hid (vb < cb) := hid (by have := U5.out.2; omega)
      have D34 : Hid (g < cb) := hid (by have := U3.out.2; omega)
      have D64 : Hid (tb < cb) := hid (by have := U6.out.2; omega)
      replace HM := hid (HM.out.keep hc (fun _ _ e => e))
      replace HC := hid (HC.out.t2 hc)
      replace HH := hid (hc.keep HH.out (fun e => e))
      replace HZ := hid (slt HH.out)
      replace H5 := hid (H5.out.keep hc (fun e => e))
      replace U5 := hid (uUp U5.out hc)
      replace H3 := hid (H3.out.keep hc (fun e => e))
      replace U3 := hid (uUp U3.out hc)
      replace H6 := hid (H6.out.keep hc (fun e => e))
      replace U6 := hid (uUp U6.out hc)
      clear hc hk hs he hb hHeld
      have hHeld := HH.out
      refine ⟨hHeld, ?_⟩
      simp only [sA, sB, sC]
      refine tV 7 13 (.agg (look0 N M (some ⟨b, o, none⟩) ic g wc cb vb tb)) rfl (by kernel_rfl) rfl (by rfl) (fun _ _ _ h => h) hHeld (fun W' hw' => by unfold look0; go_simp) ?_
      simp only [sA, sB, sC]
      refine step1 8 (by kernel_rfl) ?_
      refine stNew 8 14 (.pointer (some ⟨v38.heap.size, 0, none⟩)) (.cells (look0 N M (some ⟨b, o, none⟩) ic g wc cb vb tb) 87) rfl rfl (by rfl) (by unfold look0; go_simp) ?_
      have hc := Chg.alloc v38 (.cells (look0 N M (some ⟨b, o, none⟩) ic g wc cb vb tb) 87) No
      have hk := heap_alloc_new v38 (.cells (look0 N M (some ⟨b, o, none⟩) ic g wc cb vb tb) 87)
      obtain ⟨vz, he⟩ : ∃ y, y = v38.alloc (.cells (look0 N M (some ⟨b, o, none⟩) ic g wc cb vb tb) 87) := ⟨_, rfl⟩
      rw [← he] at hc hk ⊢
      have HP : Hid (Beg w vz N M (some ⟨b, o, none⟩) ic im v38.heap.size g wc cb vb tb) := hid ⟨hk, HM.out.keep hc (fun _ _ e => e), H3.out.keep hc (fun e => e), H4.out.keep hc (fun e => e), H5.out.keep hc (fun e => e), H6.out.keep hc (fun e => e), U3.out.1, U4.out.1, U5.out.1, U6.out.1, by have := D54.out; omega, by have := D64.out; omega, by have := D56.out; omega, by have := HZ.out; omega, HC.out.trans hc (fun _ _ e => e) (fun _ _ e => e)⟩
      have hHeld : vz.heap[w.heap.size]? = _ := hc.keep HH.out (fun e => e)
      refine ⟨hHeld, ?_⟩
      simp only [sA, sB, sC]
      refine tV 9 5 (.pointer (some ⟨v38.heap.size, 0, none⟩)) rfl (by kernel_rfl) rfl (by rfl) (fun _ _ _ h => h) hHeld (fun W' hw' => rfl) ?_
      simp only [sA, sB, sC]
      refine wpAnyH_done (by kernel_rfl) ?_ _
      refine NoPanic.normal ?_
      clear hHeld he hc hk
      go_wp2_with fail
      go_meet
      case rel => exact ⟨_, _, _, _, _, _, rfl, HP⟩
   ·skip
    refine stNew 4 10 (.map (some v33.heap.size)) (.map #[] 0) rfl rfl (by rfl) (by go_simp) ?_
    have hc := Chg.alloc v33 (.map #[] 0) No
    have hk := SetAt.made v33
    have hs := World.size_alloc v33 (.map #[] 0)
    obtain ⟨v39, he⟩ : ∃ y, y = v33.alloc (.map #[] 0) := ⟨_, rfl⟩
    rw [← he] at hc hk hs ⊢
    obtain ⟨cb, hb⟩ : ∃ y, y = v33.heap.size := ⟨_, rfl⟩
    rw [← hb] at hk ⊢
    have H4 := hid hk
    have U4 : Hid (w.heap.size ≤ cb ∧ cb < v39.heap.size) := hid ⟨by have := HZ.out; omega, by omega⟩
    have D54 : Hid (vb < cb) := hid (by have := U5.out.2; omega)
    replace HM := hid (HM.out.keep hc (fun _ _ e => e))
    replace HC := hid (HC.out.t2 hc)
    replace HH := hid (hc.keep HH.out (fun e => e))
    replace HZ := hid (slt HH.out)
    replace H5 := hid (H5.out.keep hc (fun e => e))
    replace U5 := hid (uUp U5.out hc)
    clear hc hk hs he hb hHeld
    have hHeld := HH.out
    refine ⟨hHeld, ?_⟩
    simp only [sA, sB, sC]
    refine step2 3 6 (by kernel_rfl) ?_ ?_
    ·skip
     refine stCall 3 9 48 #[.slice (some ⟨b, o, none⟩) N ic] _ rfl rfl (by rfl) (by go_simp) (by have hk := clone_any (ic := ic) HM.out (by have := HB.out.1; have := HL.out; omega) (by have := HB.out.2.1; have := HL.out; omega); rw [HL.out] at hk; exact hk) ?_
     rintro e v40 ⟨g, wc, rfl, hg, hW, hc⟩
     have H3 := hid hW
     have U3 : Hid (w.heap.size ≤ g ∧ g < v40.heap.size) := hid ⟨by have := HZ.out; omega, hW.lt⟩
     have D53 : Hid (vb < g) := hid (by have := U5.out.2; omega)
     have D43 : Hid (cb < g) := hid (by have := U4.out.2; omega)
     clear hg hW
     replace HM := hid (HM.out.keep hc (fun _ _ e => e))
     replace HC := hid (HC.out.t2 hc)
     replace HH := hid (hc.keep HH.out (fun e => e))
     replace HZ := hid (slt HH.out)
     replace H5 := hid (H5.out.keep hc (fun e => e))
     replace U5 := hid (uUp U5.out hc)
     replace H4 := hid (H4.out.keep hc (fun e => e))
     replace U4 := hid (uUp U4.out hc)
     clear hc hHeld
     have hHeld := HH.out
     refine ⟨_, rfl, hHeld, ?_⟩
     simp only [sA, sB, sC]
     refine step1 6 (by kernel_rfl) ?_
     ·skip
      refine stNew 6 12 (.map (some v40.heap.size)) (.map #[] 0) rfl rfl (by rfl) (by go_simp) ?_
      have hc := Chg.alloc v40 (.map #[] 0) No
      have hk := MapV.made v40
      have hs := World.size_alloc v40 (.map #[] 0)
      obtain ⟨v41, he⟩ : ∃ y, y = v40.alloc (.map #[] 0) := ⟨_, rfl⟩
      rw [← he] at hc hk hs ⊢
      obtain ⟨tb, hb⟩ : ∃ y, y = v40.heap.size := ⟨_, rfl⟩
      rw [← hb] at hk ⊢
      have H6 := hid hk
      have U6 : Hid (w.heap.size ≤ tb ∧ tb < v41.heap.size) := hid ⟨by have := HZ.out; omega, by omega⟩
      have D56 : Hid (vb < tb) := hid (by have := U5.out.2; omega)
      have D46 : Hid (cb < tb) := hid (by have := U4.out.2; omega)
      have D36 : Hid (g < tb) := hid (by have := U3.out.2; omega)
      replace HM := hid (HM.out.keep hc (fun _ _ e => e))
      replace HC := hid (HC.out.t2 hc)
      replace HH := hid (hc.keep HH.out (fun e => e))
      replace HZ := hid (slt HH.out)
      replace H5 := hid (H5.out.keep hc (fun e => e))
      replace U5 := hid (uUp U5.out hc)
      replace H4 := hid (H4.out.keep hc (fun e => e))
      replace U4 := hid (uUp U4.out hc)
      replace H3 := hid (H3.out.keep hc (fun e => e))
      replace U3 := hid (uUp U3.out hc)
      clear hc hk hs he hb hHeld
      have hHeld := HH.out
      refine ⟨hHeld, ?_⟩
      simp only [sA, sB, sC]
      refine tV 7 13 (.agg (look0 N M (some ⟨b, o, none⟩) ic g wc cb vb tb)) rfl (by kernel_rfl) rfl (by rfl) (fun _ _ _ h => h) hHeld (fun W' hw' => by unfold look0; go_simp) ?_
      simp only [sA, sB, sC]
      refine step1 8 (by kernel_rfl) ?_
      refine stNew 8 14 (.pointer (some ⟨v41.heap.size, 0, none⟩)) (.cells (look0 N M (some ⟨b, o, none⟩) ic g wc cb vb tb) 87) rfl rfl (by rfl) (by unfold look0; go_simp) ?_
      have hc := Chg.alloc v41 (.cells (look0 N M (some ⟨b, o, none⟩) ic g wc cb vb tb) 87) No
      have hk := heap_alloc_new v41 (.cells (look0 N M (some ⟨b, o, none⟩) ic g wc cb vb tb) 87)
      obtain ⟨vz, he⟩ : ∃ y, y = v41.alloc (.cells (look0 N M (some ⟨b, o, none⟩) ic g wc cb vb tb) 87) := ⟨_, rfl⟩
      rw [← he] at hc hk ⊢
      have HP : Hid (Beg w vz N M (some ⟨b, o, none⟩) ic im v41.heap.size g wc cb vb tb) := hid ⟨hk, HM.out.keep hc (fun _ _ e => e), H3.out.keep hc (fun e => e), H4.out.keep hc (fun e => e), H5.out.keep hc (fun e => e), H6.out.keep hc (fun e => e), U3.out.1, U4.out.1, U5.out.1, U6.out.1, by have := D54.out; omega, by have := D46.out; omega, by have := D56.out; omega, by have := HZ.out; omega, HC.out.trans hc (fun _ _ e => e) (fun _ _ e => e)⟩
      have hHeld : vz.heap[w.heap.size]? = _ := hc.keep HH.out (fun e => e)
      refine ⟨hHeld, ?_⟩
      simp only [sA, sB, sC]
      refine tV 9 5 (.pointer (some ⟨v41.heap.size, 0, none⟩)) rfl (by kernel_rfl) rfl (by rfl) (fun _ _ _ h => h) hHeld (fun W' hw' => rfl) ?_
      simp only [sA, sB, sC]
      refine wpAnyH_done (by kernel_rfl) ?_ _
      refine NoPanic.normal ?_
      clear hHeld he hc hk
      go_wp2_with fail
      go_meet
      case rel => exact ⟨_, _, _, _, _, _, rfl, HP⟩
    ·skip
     refine stNew 6 12 (.map (some v39.heap.size)) (.map #[] 0) rfl rfl (by rfl) (by go_simp) ?_
     have hc := Chg.alloc v39 (.map #[] 0) No
     have hk := MapV.made v39
     have hs := World.size_alloc v39 (.map #[] 0)
     obtain ⟨v42, he⟩ : ∃ y, y = v39.alloc (.map #[] 0) := ⟨_, rfl⟩
     rw [← he] at hc hk hs ⊢
     obtain ⟨tb, hb⟩ : ∃ y, y = v39.heap.size := ⟨_, rfl⟩
     rw [← hb] at hk ⊢
     have H6 := hid hk
     have U6 : Hid (w.heap.size ≤ tb ∧ tb < v42.heap.size) := hid ⟨by have := HZ.out; omega, by omega⟩
     have D56 : Hid (vb < tb) := hid (by have := U5.out.2; omega)
     have D46 : Hid (cb < tb) := hid (by have := U4.out.2; omega)
     replace HM := hid (HM.out.keep hc (fun _ _ e => e))
     replace HC := hid (HC.out.t2 hc)
     replace HH := hid (hc.keep HH.out (fun e => e))
     replace HZ := hid (slt HH.out)
     replace H5 := hid (H5.out.keep hc (fun e => e))
     replace U5 := hid (uUp U5.out hc)
     replace H4 := hid (H4.out.keep hc (fun e => e))
     replace U4 := hid (uUp U4.out hc)
     clear hc hk hs he hb hHeld
     have hHeld := HH.out
     refine ⟨hHeld, ?_⟩
     simp only [sA, sB, sC]
     refine step1 3 (by kernel_rfl) ?_
     ·skip
      refine stCall 3 9 48 #[.slice (some ⟨b, o, none⟩) N ic] _ rfl rfl (by rfl) (by go_simp) (by have hk := clone_any (ic := ic) HM.out (by have := HB.out.1; have := HL.out; omega) (by have := HB.out.2.1; have := HL.out; omega); rw [HL.out] at hk; exact hk) ?_
      rintro e v43 ⟨g, wc, rfl, hg, hW, hc⟩
      have H3 := hid hW
      have U3 : Hid (w.heap.size ≤ g ∧ g < v43.heap.size) := hid ⟨by have := HZ.out; omega, hW.lt⟩
      have D53 : Hid (vb < g) := hid (by have := U5.out.2; omega)
      have D43 : Hid (cb < g) := hid (by have := U4.out.2; omega)
      have D63 : Hid (tb < g) := hid (by have := U6.out.2; omega)
      clear hg hW
      replace HM := hid (HM.out.keep hc (fun _ _ e => e))
      replace HC := hid (HC.out.t2 hc)
      replace HH := hid (hc.keep HH.out (fun e => e))
      replace HZ := hid (slt HH.out)
      replace H5 := hid (H5.out.keep hc (fun e => e))
      replace U5 := hid (uUp U5.out hc)
      replace H4 := hid (H4.out.keep hc (fun e => e))
      replace U4 := hid (uUp U4.out hc)
      replace H6 := hid (H6.out.keep hc (fun e => e))
      replace U6 := hid (uUp U6.out hc)
      clear hc hHeld
      have hHeld := HH.out
      refine ⟨_, rfl, hHeld, ?_⟩
      simp only [sA, sB, sC]
      refine tV 7 13 (.agg (look0 N M (some ⟨b, o, none⟩) ic g wc cb vb tb)) rfl (by kernel_rfl) rfl (by rfl) (fun _ _ _ h => h) hHeld (fun W' hw' => by unfold look0; go_simp) ?_
      simp only [sA, sB, sC]
      refine step1 8 (by kernel_rfl) ?_
      refine stNew 8 14 (.pointer (some ⟨v43.heap.size, 0, none⟩)) (.cells (look0 N M (some ⟨b, o, none⟩) ic g wc cb vb tb) 87) rfl rfl (by rfl) (by unfold look0; go_simp) ?_
      have hc := Chg.alloc v43 (.cells (look0 N M (some ⟨b, o, none⟩) ic g wc cb vb tb) 87) No
      have hk := heap_alloc_new v43 (.cells (look0 N M (some ⟨b, o, none⟩) ic g wc cb vb tb) 87)
      obtain ⟨vz, he⟩ : ∃ y, y = v43.alloc (.cells (look0 N M (some ⟨b, o, none⟩) ic g wc cb vb tb) 87) := ⟨_, rfl⟩
      rw [← he] at hc hk ⊢
      have HP : Hid (Beg w vz N M (some ⟨b, o, none⟩) ic im v43.heap.size g wc cb vb tb) := hid ⟨hk, HM.out.keep hc (fun _ _ e => e), H3.out.keep hc (fun e => e), H4.out.keep hc (fun e => e), H5.out.keep hc (fun e => e), H6.out.keep hc (fun e => e), U3.out.1, U4.out.1, U5.out.1, U6.out.1, by have := D54.out; omega, by have := D46.out; omega, by have := D56.out; omega, by have := HZ.out; omega, HC.out.trans hc (fun _ _ e => e) (fun _ _ e => e)⟩
      have hHeld : vz.heap[w.heap.size]? = _ := hc.keep HH.out (fun e => e)
      refine ⟨hHeld, ?_⟩
      simp only [sA, sB, sC]
      refine tV 9 5 (.pointer (some ⟨v43.heap.size, 0, none⟩)) rfl (by kernel_rfl) rfl (by rfl) (fun _ _ _ h => h) hHeld (fun W' hw' => rfl) ?_
      simp only [sA, sB, sC]
      refine wpAnyH_done (by kernel_rfl) ?_ _
      refine NoPanic.normal ?_
      clear hHeld he hc hk
      go_wp2_with fail
      go_meet
      case rel => exact ⟨_, _, _, _, _, _, rfl, HP⟩
   ·skip
    refine stNew 6 12 (.map (some v33.heap.size)) (.map #[] 0) rfl rfl (by rfl) (by go_simp) ?_
    have hc := Chg.alloc v33 (.map #[] 0) No
    have hk := MapV.made v33
    have hs := World.size_alloc v33 (.map #[] 0)
    obtain ⟨v44, he⟩ : ∃ y, y = v33.alloc (.map #[] 0) := ⟨_, rfl⟩
    rw [← he] at hc hk hs ⊢
    obtain ⟨tb, hb⟩ : ∃ y, y = v33.heap.size := ⟨_, rfl⟩
    rw [← hb] at hk ⊢
    have H6 := hid hk
    have U6 : Hid (w.heap.size ≤ tb ∧ tb < v44.heap.size) := hid ⟨by have := HZ.out; omega, by omega⟩
    have D56 : Hid (vb < tb) := hid (by have := U5.out.2; omega)
    replace HM := hid (HM.out.keep hc (fun _ _ e => e))
    replace HC := hid (HC.out.t2 hc)
    replace HH := hid (hc.keep HH.out (fun e => e))
    replace HZ := hid (slt HH.out)
    replace H5 := hid (H5.out.keep hc (fun e => e))
    replace U5 := hid (uUp U5.out hc)
    clear hc hk hs he hb hHeld
    have hHeld := HH.out
    refine ⟨hHeld, ?_⟩
    simp only [sA, sB, sC]
    refine step2 3 4 (by kernel_rfl) ?_ ?_
    ·skip
     refine stCall 3 9 48 #[.slice (some ⟨b, o, none⟩) N ic] _ rfl rfl (by rfl) (by go_simp) (by have hk := clone_any (ic := ic) HM.out (by have := HB.out.1; have := HL.out; omega) (by have := HB.out.2.1; have := HL.out; omega); rw [HL.out] at hk; exact hk) ?_
     rintro e v45 ⟨g, wc, rfl, hg, hW, hc⟩
     have H3 := hid hW
     have U3 : Hid (w.heap.size ≤ g ∧ g < v45.heap.size) := hid ⟨by have := HZ.out; omega, hW.lt⟩
     have D53 : Hid (vb < g) := hid (by have := U5.out.2; omega)
     have D63 : Hid (tb < g) := hid (by have := U6.out.2; omega)
     clear hg hW
     replace HM := hid (HM.out.keep hc (fun _ _ e => e))
     replace HC := hid (HC.out.t2 hc)
     replace HH := hid (hc.keep HH.out (fun e => e))
     replace HZ := hid (slt HH.out)
     replace H5 := hid (H5.out.keep hc (fun e => e))
     replace U5 := hid (uUp U5.out hc)
     replace H6 := hid (H6.out.keep hc (fun e => e))
     replace U6 := hid (uUp U6.out hc)
     clear hc hHeld
     have hHeld := HH.out
     refine ⟨_, rfl, hHeld, ?_⟩
     simp only [sA, sB, sC]
     refine step1 4 (by kernel_rfl) ?_
     ·skip
      refine stNew 4 10 (.map (some v45.heap.size)) (.map #[] 0) rfl rfl (by rfl) (by go_simp) ?_
      have hc := Chg.alloc v45 (.map #[] 0) No
      have hk := SetAt.made v45
      have hs := World.size_alloc v45 (.map #[] 0)
      obtain ⟨v46, he⟩ : ∃ y, y = v45.alloc (.map #[] 0) := ⟨_, rfl⟩
      rw [← he] at hc hk hs ⊢
      obtain ⟨cb, hb⟩ : ∃ y, y = v45.heap.size := ⟨_, rfl⟩
      rw [← hb] at hk ⊢
      have H4 := hid hk
      have U4 : Hid (w.heap.size ≤ cb ∧ cb < v46.heap.size) := hid ⟨by have := HZ.out; omega, by omega⟩
      have D54 : Hid (vb < cb) := hid (by have := U5.out.2; omega)
      have D64 : Hid (tb < cb) := hid (by have := U6.out.2; omega)
      have D34 : Hid (g < cb) := hid (by have := U3.out.2; omega)
      replace HM := hid (HM.out.keep hc (fun _ _ e => e))
      replace HC := hid (HC.out.t2 hc)
      replace HH := hid (hc.keep HH.out (fun e => e))
      replace HZ := hid (slt HH.out)
      replace H5 := hid (H5.out.keep hc (fun e => e))
      replace U5 := hid (uUp U5.out hc)
      replace H6 := hid (H6.out.keep hc (fun e => e))
      replace U6 := hid (uUp U6.out hc)
      replace H3 := hid (H3.out.keep hc (fun e => e))
      replace U3 := hid (uUp U3.out hc)
      clear hc hk hs he hb hHeld
      have hHeld := HH.out
      refine ⟨hHeld, ?_⟩
      simp only [sA, sB, sC]
      refine tV 7 13 (.agg (look0 N M (some ⟨b, o, none⟩) ic g wc cb vb tb)) rfl (by kernel_rfl) rfl (by rfl) (fun _ _ _ h => h) hHeld (fun W' hw' => by unfold look0; go_simp) ?_
      simp only [sA, sB, sC]
      refine step1 8 (by kernel_rfl) ?_
      refine stNew 8 14 (.pointer (some ⟨v46.heap.size, 0, none⟩)) (.cells (look0 N M (some ⟨b, o, none⟩) ic g wc cb vb tb) 87) rfl rfl (by rfl) (by unfold look0; go_simp) ?_
      have hc := Chg.alloc v46 (.cells (look0 N M (some ⟨b, o, none⟩) ic g wc cb vb tb) 87) No
      have hk := heap_alloc_new v46 (.cells (look0 N M (some ⟨b, o, none⟩) ic g wc cb vb tb) 87)
      obtain ⟨vz, he⟩ : ∃ y, y = v46.alloc (.cells (look0 N M (some ⟨b, o, none⟩) ic g wc cb vb tb) 87) := ⟨_, rfl⟩
      rw [← he] at hc hk ⊢
      have HP : Hid (Beg w vz N M (some ⟨b, o, none⟩) ic im v46.heap.size g wc cb vb tb) := hid ⟨hk, HM.out.keep hc (fun _ _ e => e), H3.out.keep hc (fun e => e), H4.out.keep hc (fun e => e), H5.out.keep hc (fun e => e), H6.out.keep hc (fun e => e), U3.out.1, U4.out.1, U5.out.1, U6.out.1, by have := D54.out; omega, by have := D64.out; omega, by have := D56.out; omega, by have := HZ.out; omega, HC.out.trans hc (fun _ _ e => e) (fun _ _ e => e)⟩
      have hHeld : vz.heap[w.heap.size]? = _ := hc.keep HH.out (fun e => e)
      refine ⟨hHeld, ?_⟩
      simp only [sA, sB, sC]
      refine tV 9 5 (.pointer (some ⟨v46.heap.size, 0, none⟩)) rfl (by kernel_rfl) rfl (by rfl) (fun _ _ _ h => h) hHeld (fun W' hw' => rfl) ?_
      simp only [sA, sB, sC]
      refine wpAnyH_done (by kernel_rfl) ?_ _
      refine NoPanic.normal ?_
      clear hHeld he hc hk
      go_wp2_with fail
      go_meet
      case rel => exact ⟨_, _, _, _, _, _, rfl, HP⟩
    ·skip
     refine stNew 4 10 (.map (some v44.heap.size)) (.map #[] 0) rfl rfl (by rfl) (by go_simp) ?_
     have hc := Chg.alloc v44 (.map #[] 0) No
     have hk := SetAt.made v44
     have hs := World.size_alloc v44 (.map #[] 0)
     obtain ⟨v47, he⟩ : ∃ y, y = v44.alloc (.map #[] 0) := ⟨_, rfl⟩
     rw [← he] at hc hk hs ⊢
     obtain ⟨cb, hb⟩ : ∃ y, y = v44.heap.size := ⟨_, rfl⟩
     rw [← hb] at hk ⊢
     have H4 := hid hk
     have U4 : Hid (w.heap.size ≤ cb ∧ cb < v47.heap.size) := hid ⟨by have := HZ.out; omega, by omega⟩
     have D54 : Hid (vb < cb) := hid (by have := U5.out.2; omega)
     have D64 : Hid (tb < cb) := hid (by have := U6.out.2; omega)
     replace HM := hid (HM.out.keep hc (fun _ _ e => e))
     replace HC := hid (HC.out.t2 hc)
     replace HH := hid (hc.keep HH.out (fun e => e))
     replace HZ := hid (slt HH.out)
     replace H5 := hid (H5.out.keep hc (fun e => e))
     replace U5 := hid (uUp U5.out hc)
     replace H6 := hid (H6.out.keep hc (fun e => e))
     replace U6 := hid (uUp U6.out hc)
     clear hc hk hs he hb hHeld
     have hHeld := HH.out
     refine ⟨hHeld, ?_⟩
     simp only [sA, sB, sC]
     refine step1 3 (by kernel_rfl) ?_
     ·skip
      refine stCall 3 9 48 #[.slice (some ⟨b, o, none⟩) N ic] _ rfl rfl (by rfl) (by go_simp) (by have hk := clone_any (ic := ic) HM.out (by have := HB.out.1; have := HL.out; omega) (by have := HB.out.2.1; have := HL.out; omega); rw [HL.out] at hk; exact hk) ?_
      rintro e v48 ⟨g, wc, rfl, hg, hW, hc⟩
      have H3 := hid hW
      have U3 : Hid (w.heap.size ≤ g ∧ g < v48.heap.size) := hid ⟨by have := HZ.out; omega, hW.lt⟩
      have D53 : Hid (vb < g) := hid (by have := U5.out.2; omega)
      have D63 : Hid (tb < g) := hid (by have := U6.out.2; omega)
      have D43 : Hid (cb < g) := hid (by have := U4.out.2; omega)
      clear hg hW
      replace HM := hid (HM.out.keep hc (fun _ _ e => e))
      replace HC := hid (HC.out.t2 hc)
      replace HH := hid (hc.keep HH.out (fun e => e))
      replace HZ := hid (slt HH.out)
      replace H5 := hid (H5.out.keep hc (fun e => e))
      replace U5 := hid (uUp U5.out hc)
      replace H6 := hid (H6.out.keep hc (fun e => e))
      replace U6 := hid (uUp U6.out hc)
      replace H4 := hid (H4.out.keep hc (fun e => e))
      replace U4 := hid (uUp U4.out hc)
      clear hc hHeld
      have hHeld := HH.out
      refine ⟨_, rfl, hHeld, ?_⟩
      simp only [sA, sB, sC]
      refine tV 7 13 (.agg (look0 N M (some ⟨b, o, none⟩) ic g wc cb vb tb)) rfl (by kernel_rfl) rfl (by rfl) (fun _ _ _ h => h) hHeld (fun W' hw' => by unfold look0; go_simp) ?_
      simp only [sA, sB, sC]
      refine step1 8 (by kernel_rfl) ?_
      refine stNew 8 14 (.pointer (some ⟨v48.heap.size, 0, none⟩)) (.cells (look0 N M (some ⟨b, o, none⟩) ic g wc cb vb tb) 87) rfl rfl (by rfl) (by unfold look0; go_simp) ?_
      have hc := Chg.alloc v48 (.cells (look0 N M (some ⟨b, o, none⟩) ic g wc cb vb tb) 87) No
      have hk := heap_alloc_new v48 (.cells (look0 N M (some ⟨b, o, none⟩) ic g wc cb vb tb) 87)
      obtain ⟨vz, he⟩ : ∃ y, y = v48.alloc (.cells (look0 N M (some ⟨b, o, none⟩) ic g wc cb vb tb) 87) := ⟨_, rfl⟩
      rw [← he] at hc hk ⊢
      have HP : Hid (Beg w vz N M (some ⟨b, o, none⟩) ic im v48.heap.size g wc cb vb tb) := hid ⟨hk, HM.out.keep hc (fun _ _ e => e), H3.out.keep hc (fun e => e), H4.out.keep hc (fun e => e), H5.out.keep hc (fun e => e), H6.out.keep hc (fun e => e), U3.out.1, U4.out.1, U5.out.1, U6.out.1, by have := D54.out; omega, by have := D64.out; omega, by have := D56.out; omega, by have := HZ.out; omega, HC.out.trans hc (fun _ _ e => e) (fun _ _ e => e)⟩
      have hHeld : vz.heap[w.heap.size]? = _ := hc.keep HH.out (fun e => e)
      refine ⟨hHeld, ?_⟩
      simp only [sA, sB, sC]
      refine tV 9 5 (.pointer (some ⟨v48.heap.size, 0, none⟩)) rfl (by kernel_rfl) rfl (by rfl) (fun _ _ _ h => h) hHeld (fun W' hw' => rfl) ?_
      simp only [sA, sB, sC]
      refine wpAnyH_done (by kernel_rfl) ?_ _
      refine NoPanic.normal ?_
      clear hHeld he hc hk
      go_wp2_with fail
      go_meet
      case rel => exact ⟨_, _, _, _, _, _, rfl, HP⟩
  ·skip
   refine stNew 6 12 (.map (some v.heap.size)) (.map #[] 0) rfl rfl (by rfl) (by go_simp) ?_
   have hc := Chg.alloc v (.map #[] 0) No
   have hk := MapV.made v
   have hs := World.size_alloc v (.map #[] 0)
   obtain ⟨v49, he⟩ : ∃ y, y = v.alloc (.map #[] 0) := ⟨_, rfl⟩
   rw [← he] at hc hk hs ⊢
   obtain ⟨tb, hb⟩ : ∃ y, y = v.heap.size := ⟨_, rfl⟩
   rw [← hb] at hk ⊢
   have H6 := hid hk
   have U6 : Hid (w.heap.size ≤ tb ∧ tb < v49.heap.size) := hid ⟨by have := HZ.out; omega, by omega⟩
   replace HM := hid (HM.out.keep hc (fun _ _ e => e))
   replace HC := hid (HC.out.t2 hc)
   replace HH := hid (hc.keep HH.out (fun e => e))
   replace HZ := hid (slt HH.out)
   clear hc hk hs he hb hHeld
   have hHeld := HH.out
   refine ⟨hHeld, ?_⟩
   simp only [sA, sB, sC]
   refine step3 3 4 5 (by kernel_rfl) ?_ ?_ ?_
   ·skip
    refine stCall 3 9 48 #[.slice (some ⟨b, o, none⟩) N ic] _ rfl rfl (by rfl) (by go_simp) (by have hk := clone_any (ic := ic) HM.out (by have := HB.out.1; have := HL.out; omega) (by have := HB.out.2.1; have := HL.out; omega); rw [HL.out] at hk; exact hk) ?_
    rintro e v50 ⟨g, wc, rfl, hg, hW, hc⟩
    have H3 := hid hW
    have U3 : Hid (w.heap.size ≤ g ∧ g < v50.heap.size) := hid ⟨by have := HZ.out; omega, hW.lt⟩
    have D63 : Hid (tb < g) := hid (by have := U6.out.2; omega)
    clear hg hW
    replace HM := hid (HM.out.keep hc (fun _ _ e => e))
    replace HC := hid (HC.out.t2 hc)
    replace HH := hid (hc.keep HH.out (fun e => e))
    replace HZ := hid (slt HH.out)
    replace H6 := hid (H6.out.keep hc (fun e => e))
    replace U6 := hid (uUp U6.out hc)
    clear hc hHeld
    have hHeld := HH.out
    refine ⟨_, rfl, hHeld, ?_⟩
    simp only [sA, sB, sC]
    refine step2 4 5 (by kernel_rfl) ?_ ?_
    ·skip
     refine stNew 4 10 (.map (some v50.heap.size)) (.map #[] 0) rfl rfl (by rfl) (by go_simp) ?_
     have hc := Chg.alloc v50 (.map #[] 0) No
     have hk := SetAt.made v50
     have hs := World.size_alloc v50 (.map #[] 0)
     obtain ⟨v51, he⟩ : ∃ y, y = v50.alloc (.map #[] 0) := ⟨_, rfl⟩
     rw [← he] at hc hk hs ⊢
     obtain ⟨cb, hb⟩ : ∃ y, y = v50.heap.size := ⟨_, rfl⟩
     rw [← hb] at hk ⊢
     have H4 := hid hk
     have U4 : Hid (w.heap.size ≤ cb ∧ cb < v51.heap.size) := hid ⟨by have := HZ.out; omega, by omega⟩
     have D64 : Hid (tb < cb) := hid (by have := U6.out.2; omega)
     have D34 : Hid (g < cb) := hid (by have := U3.out.2; omega)
     replace HM := hid (HM.out.keep hc (fun _ _ e => e))
     replace HC := hid (HC.out.t2 hc)
     replace HH := hid (hc.keep HH.out (fun e => e))
     replace HZ := hid (slt HH.out)
     replace H6 := hid (H6.out.keep hc (fun e => e))
     replace U6 := hid (uUp U6.out hc)
     replace H3 := hid (H3.out.keep hc (fun e => e))
     replace U3 := hid (uUp U3.out hc)
     clear hc hk hs he hb hHeld
     have hHeld := HH.out
     refine ⟨hHeld, ?_⟩
     simp only [sA, sB, sC]
     refine step1 5 (by kernel_rfl) ?_
     ·skip
      refine stNew 5 11 (.map (some v51.heap.size)) (.map #[] 0) rfl rfl (by rfl) (by go_simp) ?_
      have hc := Chg.alloc v51 (.map #[] 0) No
      have hk := SetAt.made v51
      have hs := World.size_alloc v51 (.map #[] 0)
      obtain ⟨v52, he⟩ : ∃ y, y = v51.alloc (.map #[] 0) := ⟨_, rfl⟩
      rw [← he] at hc hk hs ⊢
      obtain ⟨vb, hb⟩ : ∃ y, y = v51.heap.size := ⟨_, rfl⟩
      rw [← hb] at hk ⊢
      have H5 := hid hk
      have U5 : Hid (w.heap.size ≤ vb ∧ vb < v52.heap.size) := hid ⟨by have := HZ.out; omega, by omega⟩
      have D65 : Hid (tb < vb) := hid (by have := U6.out.2; omega)
      have D35 : Hid (g < vb) := hid (by have := U3.out.2; omega)
      have D45 : Hid (cb < vb) := hid (by have := U4.out.2; omega)
      replace HM := hid (HM.out.keep hc (fun _ _ e => e))
      replace HC := hid (HC.out.t2 hc)
      replace HH := hid (hc.keep HH.out (fun e => e))
      replace HZ := hid (slt HH.out)
      replace H6 := hid (H6.out.keep hc (fun e => e))
      replace U6 := hid (uUp U6.out hc)
      replace H3 := hid (H3.out.keep hc (fun e => e))
      replace U3 := hid (uUp U3.out hc)
      replace H4 := hid (H4.out.keep hc (fun e => e))
      replace U4 := hid (uUp U4.out hc)
      clear hc hk hs he hb hHeld
      have hHeld := HH.out
      refine ⟨hHeld, ?_⟩
      simp only [sA, sB, sC]
      refine tV 7 13 (.agg (look0 N M (some ⟨b, o, none⟩) ic g wc cb vb tb)) rfl (by kernel_rfl) rfl (by rfl) (fun _ _ _ h => h) hHeld (fun W' hw' => by unfold look0; go_simp) ?_
      simp only [sA, sB, sC]
      refine step1 8 (by kernel_rfl) ?_
      refine stNew 8 14 (.pointer (some ⟨v52.heap.size, 0, none⟩)) (.cells (look0 N M (some ⟨b, o, none⟩) ic g wc cb vb tb) 87) rfl rfl (by rfl) (by unfold look0; go_simp) ?_
      have hc := Chg.alloc v52 (.cells (look0 N M (some ⟨b, o, none⟩) ic g wc cb vb tb) 87) No
      have hk := heap_alloc_new v52 (.cells (look0 N M (some ⟨b, o, none⟩) ic g wc cb vb tb) 87)
      obtain ⟨vz, he⟩ : ∃ y, y = v52.alloc (.cells (look0 N M (some ⟨b, o, none⟩) ic g wc cb vb tb) 87) := ⟨_, rfl⟩
      rw [← he] at hc hk ⊢
      have HP : Hid (Beg w vz N M (some ⟨b, o, none⟩) ic im v52.heap.size g wc cb vb tb) := hid ⟨hk, HM.out.keep hc (fun _ _ e => e), H3.out.keep hc (fun e => e), H4.out.keep hc (fun e => e), H5.out.keep hc (fun e => e), H6.out.keep hc (fun e => e), U3.out.1, U4.out.1, U5.out.1, U6.out.1, by have := D45.out; omega, by have := D64.out; omega, by have := D65.out; omega, by have := HZ.out; omega, HC.out.trans hc (fun _ _ e => e) (fun _ _ e => e)⟩
      have hHeld : vz.heap[w.heap.size]? = _ := hc.keep HH.out (fun e => e)
      refine ⟨hHeld, ?_⟩
      simp only [sA, sB, sC]
      refine tV 9 5 (.pointer (some ⟨v52.heap.size, 0, none⟩)) rfl (by kernel_rfl) rfl (by rfl) (fun _ _ _ h => h) hHeld (fun W' hw' => rfl) ?_
      simp only [sA, sB, sC]
      refine wpAnyH_done (by kernel_rfl) ?_ _
      refine NoPanic.normal ?_
      clear hHeld he hc hk
      go_wp2_with fail
      go_meet
      case rel => exact ⟨_, _, _, _, _, _, rfl, HP⟩
    ·skip
     refine stNew 5 11 (.map (some v50.heap.size)) (.map #[] 0) rfl rfl (by rfl) (by go_simp) ?_
     have hc := Chg.alloc v50 (.map #[] 0) No
     have hk := SetAt.made v50
     have hs := World.size_alloc v50 (.map #[] 0)
     obtain ⟨v53, he⟩ : ∃ y, y = v50.alloc (.map #[] 0) := ⟨_, rfl⟩
     rw [← he] at hc hk hs ⊢
     obtain ⟨vb, hb⟩ : ∃ y, y = v50.heap.size := ⟨_, rfl⟩
     rw [← hb] at hk ⊢
     have H5 := hid hk
     have U5 : Hid (w.heap.size ≤ vb ∧ vb < v53.heap.size) := hid ⟨by have := HZ.out; omega, by omega⟩
     have D65 : Hid (tb < vb) := hid (by have := U6.out.2; omega)
     have D35 : Hid (g < vb) := hid (by have := U3.out.2; omega)
     replace HM := hid (HM.out.keep hc (fun _ _ e => e))
     replace HC := hid (HC.out.t2 hc)
     replace HH := hid (hc.keep HH.out (fun e => e))
     replace HZ := hid (slt HH.out)
     replace H6 := hid (H6.out.keep hc (fun e => e))
     replace U6 := hid (uUp U6.out hc)
     replace H3 := hid (H3.out.keep hc (fun e => e))
     replace U3 := hid (uUp U3.out hc)
     clear hc hk hs he hb hHeld
     have hHeld := HH.out
     refine ⟨hHeld, ?_⟩
     simp only [sA, sB, sC]
     refine step1 4 (by kernel_rfl) ?_
     ·skip
      refine stNew 4 10 (.map (some v53.heap.size)) (.map #[] 0) rfl rfl (by rfl) (by go_simp) ?_
      have hc := Chg.alloc v53 (.map #[] 0) No
      have hk := SetAt.made v53
      have hs := World.size_alloc v53 (.map #[] 0)
      obtain ⟨v54, he⟩ : ∃ y, y = v53.alloc (.map #[] 0) := ⟨_, rfl⟩
      rw [← he] at hc hk hs ⊢
      obtain ⟨cb, hb⟩ : ∃ y, y = v53.heap.size := ⟨_, rfl⟩
      rw [← hb] at hk ⊢
      have H4 := hid hk
      have U4 : Hid (w.heap.size ≤ cb ∧ cb < v54.heap.size) := hid ⟨by have := HZ.out; omega, by omega⟩
      have D64 : Hid (tb < cb) := hid (by have := U6.out.2; omega)
      have D34 : Hid (g < cb) := hid (by have := U3.out.2; omega)
      have D54 : Hid (vb < cb) := hid (by have := U5.out.2; omega)
      replace HM := hid (HM.out.keep hc (fun _ _ e => e))
      replace HC := hid (HC.out.t2 hc)
      replace HH := hid (hc.keep HH.out (fun e => e))
      replace HZ := hid (slt HH.out)
      replace H6 := hid (H6.out.keep hc (fun e => e))
      replace U6 := hid (uUp U6.out hc)
      replace H3 := hid (H3.out.keep hc (fun e => e))
      replace U3 := hid (uUp U3.out hc)
      replace H5 := hid (H5.out.keep hc (fun e => e))
      replace U5 := hid (uUp U5.out hc)
      clear hc hk hs he hb hHeld
      have hHeld := HH.out
      refine ⟨hHeld, ?_⟩
      simp only [sA, sB, sC]
      refine tV 7 13 (.agg (look0 N M (some ⟨b, o, none⟩) ic g wc cb vb tb)) rfl (by kernel_rfl) rfl (by rfl) (fun _ _ _ h => h) hHeld (fun W' hw' => by unfold look0; go_simp) ?_
      simp only [sA, sB, sC]
      refine step1 8 (by kernel_rfl) ?_
      refine stNew 8 14 (.pointer (some ⟨v54.heap.size, 0, none⟩)) (.cells (look0 N M (some ⟨b, o, none⟩) ic g wc cb vb tb) 87) rfl rfl (by rfl) (by unfold look0; go_simp) ?_
      have hc := Chg.alloc v54 (.cells (look0 N M (some ⟨b, o, none⟩) ic g wc cb vb tb) 87) No
      have hk := heap_alloc_new v54 (.cells (look0 N M (some ⟨b, o, none⟩) ic g wc cb vb tb) 87)
      obtain ⟨vz, he⟩ : ∃ y, y = v54.alloc (.cells (look0 N M (some ⟨b, o, none⟩) ic g wc cb vb tb) 87) := ⟨_, rfl⟩
      rw [← he] at hc hk ⊢
      have HP : Hid (Beg w vz N M (some ⟨b, o, none⟩) ic im v54.heap.size g wc cb vb tb) := hid ⟨hk, HM.out.keep hc (fun _ _ e => e), H3.out.keep hc (fun e => e), H4.out.keep hc (fun e => e), H5.out.keep hc (fun e => e), H6.out.keep hc (fun e => e), U3.out.1, U4.out.1, U5.out.1, U6.out.1, by have := D54.out; omega, by have := D64.out; omega, by have := D65.out; omega, by have := HZ.out; omega, HC.out.trans hc (fun _ _ e => e) (fun _ _ e => e)⟩
      have hHeld : vz.heap[w.heap.size]? = _ := hc.keep HH.out (fun e => e)
      refine ⟨hHeld, ?_⟩
      simp only [sA, sB, sC]
      refine tV 9 5 (.pointer (some ⟨v54.heap.size, 0, none⟩)) rfl (by kernel_rfl) rfl (by rfl) (fun _ _ _ h => h) hHeld (fun W' hw' => rfl) ?_
      simp only [sA, sB, sC]
      refine wpAnyH_done (by kernel_rfl) ?_ _
      refine NoPanic.normal ?_
      clear hHeld he hc hk
      go_wp2_with fail
      go_meet
      case rel => exact ⟨_, _, _, _, _, _, rfl, HP⟩
   ·skip
    refine stNew 4 10 (.map (some v49.heap.size)) (.map #[] 0) rfl rfl (by rfl) (by go_simp) ?_
    have hc := Chg.alloc v49 (.map #[] 0) No
    have hk := SetAt.made v49
    have hs := World.size_alloc v49 (.map #[] 0)
    obtain ⟨v55, he⟩ : ∃ y, y = v49.alloc (.map #[] 0) := ⟨_, rfl⟩
    rw [← he] at hc hk hs ⊢
    obtain ⟨cb, hb⟩ : ∃ y, y = v49.heap.size := ⟨_, rfl⟩
    rw [← hb] at hk ⊢
    have H4 := hid hk
    have U4 : Hid (w.heap.size ≤ cb ∧ cb < v55.heap.size) := hid ⟨by have := HZ.out; omega, by omega⟩
    have D64 : Hid (tb < cb) := hid (by have := U6.out.2; omega)
    replace HM := hid (HM.out.keep hc (fun _ _ e => e))
    replace HC := hid (HC.out.t2 hc)
    replace HH := hid (hc.keep HH.out (fun e => e))
    replace HZ := hid (slt HH.out)
    replace H6 := hid (H6.out.keep hc (fun e => e))
    replace U6 := hid (uUp U6.out hc)
    clear hc hk hs he hb hHeld
    have hHeld := HH.out
    refine ⟨hHeld, ?_⟩
    simp only [sA, sB, sC]
    refine step2 3 5 (by kernel_rfl) ?_ ?_
    ·skip
     refine stCall 3 9 48 #[.slice (some ⟨b, o, none⟩) N ic] _ rfl rfl (by rfl) (by go_simp) (by have hk := clone_any (ic := ic) HM.out (by have := HB.out.1; have := HL.out; omega) (by have := HB.out.2.1; have := HL.out; omega); rw [HL.out] at hk; exact hk) ?_
     rintro e v56 ⟨g, wc, rfl, hg, hW, hc⟩
     have H3 := hid hW
     have U3 : Hid (w.heap.size ≤ g ∧ g < v56.heap.size) := hid ⟨by have := HZ.out; omega, hW.lt⟩
     have D63 : Hid (tb < g) := hid (by have := U6.out.2; omega)
     have D43 : Hid (cb < g) := hid (by have := U4.out.2; omega)
     clear hg hW
     replace HM := hid (HM.out.keep hc (fun _ _ e => e))
     replace HC := hid (HC.out.t2 hc)
     replace HH := hid (hc.keep HH.out (fun e => e))
     replace HZ := hid (slt HH.out)
     replace H6 := hid (H6.out.keep hc (fun e => e))
     replace U6 := hid (uUp U6.out hc)
     replace H4 := hid (H4.out.keep hc (fun e => e))
     replace U4 := hid (uUp U4.out hc)
     clear hc hHeld
     have hHeld := HH.out
     refine ⟨_, rfl, hHeld, ?_⟩
     simp only [sA, sB, sC]
     refine step1 5 (by kernel_rfl) ?_
     ·skip
      refine stNew 5 11 (.map (some v56.heap.size)) (.map #[] 0) rfl rfl (by rfl) (by go_simp) ?_
      have hc := Chg.alloc v56 (.map #[] 0) No
      have hk := SetAt.made v56
      have hs := World.size_alloc v56 (.map #[] 0)
      obtain ⟨v57, he⟩ : ∃ y, y = v56.alloc (.map #[] 0) := ⟨_, rfl⟩
      rw [← he] at hc hk hs ⊢
      obtain ⟨vb, hb⟩ : ∃ y, y = v56.heap.size := ⟨_, rfl⟩
      rw [← hb] at hk ⊢
      have H5 := hid hk
      have U5 : Hid (w.heap.size ≤ vb ∧ vb < v57.heap.size) := hid ⟨by have := HZ.out; omega, by omega⟩
      have D65 : Hid (tb < vb) := hid (by have := U6.out.2; omega)
      have D45 : Hid (cb < vb) := hid (by have := U4.out.2; omega)
      have D35 : Hid (g < vb) := hid (by have := U3.out.2; omega)
      replace HM := hid (HM.out.keep hc (fun _ _ e => e))
      replace HC := hid (HC.out.t2 hc)
      replace HH := hid (hc.keep HH.out (fun e => e))
      replace HZ := hid (slt HH.out)
      replace H6 := hid (H6.out.keep hc (fun e => e))
      replace U6 := hid (uUp U6.out hc)
      replace H4 := hid (H4.out.keep hc (fun e => e))
      replace U4 := hid (uUp U4.out hc)
      replace H3 := hid (H3.out.keep hc (fun e => e))
      replace U3 := hid (uUp U3.out hc)
      clear hc hk hs he hb hHeld
      have hHeld := HH.out
      refine ⟨hHeld, ?_⟩
      simp only [sA, sB, sC]
      refine tV 7 13 (.agg (look0 N M (some ⟨b, o, none⟩) ic g wc cb vb tb)) rfl (by kernel_rfl) rfl (by rfl) (fun _ _ _ h => h) hHeld (fun W' hw' => by unfold look0; go_simp) ?_
      simp only [sA, sB, sC]
      refine step1 8 (by kernel_rfl) ?_
      refine stNew 8 14 (.pointer (some ⟨v57.heap.size, 0, none⟩)) (.cells (look0 N M (some ⟨b, o, none⟩) ic g wc cb vb tb) 87) rfl rfl (by rfl) (by unfold look0; go_simp) ?_
      have hc := Chg.alloc v57 (.cells (look0 N M (some ⟨b, o, none⟩) ic g wc cb vb tb) 87) No
      have hk := heap_alloc_new v57 (.cells (look0 N M (some ⟨b, o, none⟩) ic g wc cb vb tb) 87)
      obtain ⟨vz, he⟩ : ∃ y, y = v57.alloc (.cells (look0 N M (some ⟨b, o, none⟩) ic g wc cb vb tb) 87) := ⟨_, rfl⟩
      rw [← he] at hc hk ⊢
      have HP : Hid (Beg w vz N M (some ⟨b, o, none⟩) ic im v57.heap.size g wc cb vb tb) := hid ⟨hk, HM.out.keep hc (fun _ _ e => e), H3.out.keep hc (fun e => e), H4.out.keep hc (fun e => e), H5.out.keep hc (fun e => e), H6.out.keep hc (fun e => e), U3.out.1, U4.out.1, U5.out.1, U6.out.1, by have := D45.out; omega, by have := D64.out; omega, by have := D65.out; omega, by have := HZ.out; omega, HC.out.trans hc (fun _ _ e => e) (fun _ _ e => e)⟩
      have hHeld : vz.heap[w.heap.size]? = _ := hc.keep HH.out (fun e => e)
      refine ⟨hHeld, ?_⟩
      simp only [sA, sB, sC]
      refine tV 9 5 (.pointer (some ⟨v57.heap.size, 0, none⟩)) rfl (by kernel_rfl) rfl (by rfl) (fun _ _ _ h => h) hHeld (fun W' hw' => rfl) ?_
      simp only [sA, sB, sC]
      refine wpAnyH_done (by kernel_rfl) ?_ _
      refine NoPanic.normal ?_
      clear hHeld he hc hk
      go_wp2_with fail
      go_meet
      case rel => exact ⟨_, _, _, _, _, _, rfl, HP⟩
    ·skip
     refine stNew 5 11 (.map (some v55.heap.size)) (.map #[] 0) rfl rfl (by rfl) (by go_simp) ?_
     have hc := Chg.alloc v55 (.map #[] 0) No
     have hk := SetAt.made v55
     have hs := World.size_alloc v55 (.map #[] 0)
     obtain ⟨v58, he⟩ : ∃ y, y = v55.alloc (.map #[] 0) := ⟨_, rfl⟩
     rw [← he] at hc hk hs ⊢
     obtain ⟨vb, hb⟩ : ∃ y, y = v55.heap.size := ⟨_, rfl⟩
     rw [← hb] at hk ⊢
     have H5 := hid hk
     have U5 : Hid (w.heap.size ≤ vb ∧ vb < v58.heap.size) := hid ⟨by have := HZ.out; omega, by omega⟩
     have D65 : Hid (tb < vb) := hid (by have := U6.out.2; omega)
     have D45 : Hid (cb < vb) := hid (by have := U4.out.2; omega)
     replace HM := hid (HM.out.keep hc (fun _ _ e => e))
     replace HC := hid (HC.out.t2 hc)
     replace HH := hid (hc.keep HH.out (fun e => e))
     replace HZ := hid (slt HH.out)
     replace H6 := hid (H6.out.keep hc (fun e => e))
     replace U6 := hid (uUp U6.out hc)
     replace H4 := hid (H4.out.keep hc (fun e => e))
     replace U4 := hid (uUp U4.out hc)
     clear hc hk hs he hb hHeld
     have hHeld := HH.out
     refine ⟨hHeld, ?_⟩
     simp only [sA, sB, sC]
     refine step1 3 (by kernel_rfl) ?_
     ·skip
      refine stCall 3 9 48 #[.slice (some ⟨b, o, none⟩) N ic] _ rfl rfl (by rfl) (by go_simp) (by have hk := clone_any (ic := ic) HM.out (by have := HB.out.1; have := HL.out; omega) (by have := HB.out.2.1; have := HL.out; omega); rw [HL.out] at hk; exact hk) ?_
      rintro e v59 ⟨g, wc, rfl, hg, hW, hc⟩
      have H3 := hid hW
      have U3 : Hid (w.heap.size ≤ g ∧ g < v59.heap.size) := hid ⟨by have := HZ.out; omega, hW.lt⟩
      have D63 : Hid (tb < g) := hid (by have := U6.out.2; omega)
      have D43 : Hid (cb < g) := hid (by have := U4.out.2; omega)
      have D53 : Hid (vb < g) := hid (by have := U5.out.2; omega)
      clear hg hW
      replace HM := hid (HM.out.keep hc (fun _ _ e => e))
      replace HC := hid (HC.out.t2 hc)
      replace HH := hid (hc.keep HH.out (fun e => e))
      replace HZ := hid (slt HH.out)
      replace H6 := hid (H6.out.keep hc (fun e => e))
      replace U6 := hid (uUp U6.out hc)
      replace H4 := hid (H4.out.keep hc (fun e => e))
      replace U4 := hid (uUp U4.out hc)
      replace H5 := hid (H5.out.keep hc (fun e => e))
      replace U5 := hid (uUp U5.out hc)
      clear hc hHeld
      have hHeld := HH.out
      refine ⟨_, rfl, hHeld, ?_⟩
      simp only [sA, sB, sC]
      refine tV 7 13 (.agg (look0 N M (some ⟨b, o, none⟩) ic g wc cb vb tb)) rfl (by kernel_rfl) rfl (by rfl) (fun _ _ _ h => h) hHeld (fun W' hw' => by unfold look0; go_simp) ?_
      simp only [sA, sB, sC]
      refine step1 8 (by kernel_rfl) ?_
      refine stNew 8 14 (.pointer (some ⟨v59.heap.size, 0, none⟩)) (.cells (look0 N M (some ⟨b, o, none⟩) ic g wc cb vb tb) 87) rfl rfl (by rfl) (by unfold look0; go_simp) ?_
      have hc := Chg.alloc v59 (.cells (look0 N M (some ⟨b, o, none⟩) ic g wc cb vb tb) 87) No
      have hk := heap_alloc_new v59 (.cells (look0 N M (some ⟨b, o, none⟩) ic g wc cb vb tb) 87)
      obtain ⟨vz, he⟩ : ∃ y, y = v59.alloc (.cells (look0 N M (some ⟨b, o, none⟩) ic g wc cb vb tb) 87) := ⟨_, rfl⟩
      rw [← he] at hc hk ⊢
      have HP : Hid (Beg w vz N M (some ⟨b, o, none⟩) ic im v59.heap.size g wc cb vb tb) := hid ⟨hk, HM.out.keep hc (fun _ _ e => e), H3.out.keep hc (fun e => e), H4.out.keep hc (fun e => e), H5.out.keep hc (fun e => e), H6.out.keep hc (fun e => e), U3.out.1, U4.out.1, U5.out.1, U6.out.1, by have := D45.out; omega, by have := D64.out; omega, by have := D65.out; omega, by have := HZ.out; omega, HC.out.trans hc (fun _ _ e => e) (fun _ _ e => e)⟩
      have hHeld : vz.heap[w.heap.size]? = _ := hc.keep HH.out (fun e => e)
      refine ⟨hHeld, ?_⟩
      simp only [sA, sB, sC]
      refine tV 9 5 (.pointer (some ⟨v59.heap.size, 0, none⟩)) rfl (by kernel_rfl) rfl (by rfl) (fun _ _ _ h => h) hHeld (fun W' hw' => rfl) ?_
      simp only [sA, sB, sC]
      refine wpAnyH_done (by kernel_rfl) ?_ _
      refine NoPanic.normal ?_
      clear hHeld he hc hk
      go_wp2_with fail
      go_meet
      case rel => exact ⟨_, _, _, _, _, _, rfl, HP⟩
   ·skip
    refine stNew 5 11 (.map (some v49.heap.size)) (.map #[] 0) rfl rfl (by rfl) (by go_simp) ?_
    have hc := Chg.alloc v49 (.map #[] 0) No
    have hk := SetAt.made v49
    have hs := World.size_alloc v49 (.map #[] 0)
    obtain ⟨v60, he⟩ : ∃ y, y = v49.alloc (.map #[] 0) := ⟨_, rfl⟩
    rw [← he] at hc hk hs ⊢
    obtain ⟨vb, hb⟩ : ∃ y, y = v49.heap.size := ⟨_, rfl⟩
    rw [← hb] at hk ⊢
    have H5 := hid hk
    have U5 : Hid (w.heap.size ≤ vb ∧ vb < v60.heap.size) := hid ⟨by have := HZ.out; omega, by omega⟩
    have D65 : Hid (tb < vb) := hid (by have := U6.out.2; omega)
    replace HM := hid (HM.out.keep hc (fun _ _ e => e))
    replace HC := hid (HC.out.t2 hc)
    replace HH := hid (hc.keep HH.out (fun e => e))
    replace HZ := hid (slt HH.out)
    replace H6 := hid (H6.out.keep hc (fun e => e))
    replace U6 := hid (uUp U6.out hc)
    clear hc hk hs he hb hHeld
    have hHeld := HH.out
    refine ⟨hHeld, ?_⟩
    simp only [sA, sB, sC]
    refine step2 3 4 (by kernel_rfl) ?_ ?_
    ·skip
     refine stCall 3 9 48 #[.slice (some ⟨b, o, none⟩) N ic] _ rfl rfl (by rfl) (by go_simp) (by have hk := clone_any (ic := ic) HM.out (by have := HB.out.1; have := HL.out; omega) (by have := HB.out.2.1; have := HL.out; omega); rw [HL.out] at hk; exact hk) ?_
     rintro e v61 ⟨g, wc, rfl, hg, hW, hc⟩
     have H3 := hid hW
     have U3 : Hid (w.heap.size ≤ g ∧ g < v61.heap.size) := hid ⟨by have := HZ.out; omega, hW.lt⟩
     have D63 : Hid (tb < g) := hid (by have := U6.out.2; omega)
     have D53 : Hid (vb < g) := hid (by have := U5.out.2; omega)
     clear hg hW
     replace HM := hid (HM.out.keep hc (fun _ _ e => e))
     replace HC := hid (HC.out.t2 hc)
     replace HH := hid (hc.keep HH.out (fun e => e))
     replace HZ := hid (slt HH.out)
     replace H6 := hid (H6.out.keep hc (fun e => e))
     replace U6 := hid (uUp U6.out hc)
     replace H5 := hid (H5.out.keep hc (fun e => e))
     replace U5 := hid (uUp U5.out hc)
     clear hc hHeld
     have hHeld := HH.out
     refine ⟨_, rfl, hHeld, ?_⟩
     simp only [sA, sB, sC]
     refine step1 4 (by kernel_rfl) ?_
     ·skip
      refine stNew 4 10 (.map (some v61.heap.size)) (.map #[] 0) rfl rfl (by rfl) (by go_simp) ?_
      have hc := Chg.alloc v61 (.map #[] 0) No
      have hk := SetAt.made v61
      have hs := World.size_alloc v61 (.map #[] 0)
      obtain ⟨v62, he⟩ : ∃ y, y = v61.alloc (.map #[] 0) := ⟨_, rfl⟩
      rw [← he] at hc hk hs ⊢
      obtain ⟨cb, hb⟩ : ∃ y, y = v61.heap.size := ⟨_, rfl⟩
      rw [← hb] at hk ⊢
      have H4 := hid hk
      have U4 : Hid (w.heap.size ≤ cb ∧ cb < v62.heap.size) := hid ⟨by have := HZ.out; omega, by omega⟩
      have D64 : Hid (tb < cb) := hid (by have := U6.out.2; omega)
      have D54 : Hid (vb < cb) := hid (by have := U5.out.2; omega)
      have D34 : Hid (g < cb) := hid (by have := U3.out.2; omega)
      replace HM := hid (HM.out.keep hc (fun _ _ e => e))
      replace HC := hid (HC.out.t2 hc)
      replace HH := hid (hc.keep HH.out (fun e => e))
      replace HZ := hid (slt HH.out)
      replace H6 := hid (H6.out.keep hc (fun e => e))
      replace U6 := hid (uUp U6.out hc)
      replace H5 := hid (H5.out.keep hc (fun e => e))
      replace U5 := hid (uUp U5.out hc)
      replace H3 := hid (H3.out.keep hc (fun e => e))
      replace U3 := hid (uUp U3.out hc)
      clear hc hk hs he hb hHeld
      have hHeld := HH.out
      refine ⟨hHeld, ?_⟩
      simp only [sA, sB, sC]
      refine tV 7 13 (.agg (look0 N M (some ⟨b, o, none⟩) ic g wc cb vb tb)) rfl (by kernel_rfl) rfl (by rfl) (fun _ _ _ h => h) hHeld (fun W' hw' => by unfold look0; go_simp) ?_
      simp only [sA, sB, sC]
      refine step1 8 (by kernel_rfl) ?_
      refine stNew 8 14 (.pointer (some ⟨v62.heap.size, 0, none⟩)) (.cells (look0 N M (some ⟨b, o, none⟩) ic g wc cb vb tb) 87) rfl rfl (by rfl) (by unfold look0; go_simp) ?_
      have hc := Chg.alloc v62 (.cells (look0 N M (some ⟨b, o, none⟩) ic g wc cb vb tb) 87) No
      have hk := heap_alloc_new v62 (.cells (look0 N M (some ⟨b, o, none⟩) ic g wc cb vb tb) 87)
      obtain ⟨vz, he⟩ : ∃ y, y = v62.alloc (.cells (look0 N M (some ⟨b, o, none⟩) ic g wc cb vb tb) 87) := ⟨_, rfl⟩
      rw [← he] at hc hk ⊢
      have HP : Hid (Beg w vz N M (some ⟨b, o, none⟩) ic im v62.heap.size g wc cb vb tb) := hid ⟨hk, HM.out.keep hc (fun _ _ e => e), H3.out.keep hc (fun e => e), H4.out.keep hc (fun e => e), H5.out.keep hc (fun e => e), H6.out.keep hc (fun e => e), U3.out.1, U4.out.1, U5.out.1, U6.out.1, by have := D54.out; omega, by have := D64.out; omega, by have := D65.out; omega, by have := HZ.out; omega, HC.out.trans hc (fun _ _ e => e) (fun _ _ e => e)⟩
      have hHeld : vz.heap[w.heap.size]? = _ := hc.keep HH.out (fun e => e)
      refine ⟨hHeld, ?_⟩
      simp only [sA, sB, sC]
      refine tV 9 5 (.pointer (some ⟨v62.heap.size, 0, none⟩)) rfl (by kernel_rfl) rfl (by rfl) (fun _ _ _ h => h) hHeld (fun W' hw' => rfl) ?_
      simp only [sA, sB, sC]
      refine wpAnyH_done (by kernel_rfl) ?_ _
      refine NoPanic.normal ?_
      clear hHeld he hc hk
      go_wp2_with fail
      go_meet
      case rel => exact ⟨_, _, _, _, _, _, rfl, HP⟩
    ·skip
     refine stNew 4 10 (.map (some v60.heap.size)) (.map #[] 0) rfl rfl (by rfl) (by go_simp) ?_
     have hc := Chg.alloc v60 (.map #[] 0) No
     have hk := SetAt.made v60
     have hs := World.size_alloc v60 (.map #[] 0)
     obtain ⟨v63, he⟩ : ∃ y, y = v60.alloc (.map #[] 0) := ⟨_, rfl⟩
     rw [← he] at hc hk hs ⊢
     obtain ⟨cb, hb⟩ : ∃ y, y = v60.heap.size := ⟨_, rfl⟩
     rw [← hb] at hk ⊢
     have H4 := hid hk
     have U4 : Hid (w.heap.size ≤ cb ∧ cb < v63.heap.size) := hid ⟨by have := HZ.out; omega, by omega⟩
     have D64 : Hid (tb < cb) := hid (by have := U6.out.2; omega)
     have D54 : Hid (vb < cb) := hid (by have := U5.out.2; omega)
     replace HM := hid (HM.out.keep hc (fun _ _ e => e))
     replace HC := hid (HC.out.t2 hc)
     replace HH := hid (hc.keep HH.out (fun e => e))
     replace HZ := hid (slt HH.out)
     replace H6 := hid (H6.out.keep hc (fun e => e))
     replace U6 := hid (uUp U6.out hc)
     replace H5 := hid (H5.out.keep hc (fun e => e))
     replace U5 := hid (uUp U5.out hc)
     clear hc hk hs he hb hHeld
     have hHeld := HH.out
     refine ⟨hHeld, ?_⟩
     simp only [sA, sB, sC]
     refine step1 3 (by kernel_rfl) ?_
     ·skip
      refine stCall 3 9 48 #[.slice (some ⟨b, o, none⟩) N ic] _ rfl rfl (by rfl) (by go_simp) (by have hk := clone_any (ic := ic) HM.out (by have := HB.out.1; have := HL.out; omega) (by have := HB.out.2.1; have := HL.out; omega); rw [HL.out] at hk; exact hk) ?_
      rintro e v64 ⟨g, wc, rfl, hg, hW, hc⟩
      have H3 := hid hW
      have U3 : Hid (w.heap.size ≤ g ∧ g < v64.heap.size) := hid ⟨by have := HZ.out; omega, hW.lt⟩
      have D63 : Hid (tb < g) := hid (by have := U6.out.2; omega)
      have D53 : Hid (vb < g) := hid (by have := U5.out.2; omega)
      have D43 : Hid (cb < g) := hid (by have := U4.out.2; omega)
      clear hg hW
      replace HM := hid (HM.out.keep hc (fun _ _ e => e))
      replace HC := hid (HC.out.t2 hc)
      replace HH := hid (hc.keep HH.out (fun e => e))
      replace HZ := hid (slt HH.out)
      replace H6 := hid (H6.out.keep hc (fun e => e))
      replace U6 := hid (uUp U6.out hc)
      replace H5 := hid (H5.out.keep hc (fun e => e))
      replace U5 := hid (uUp U5.out hc)
      replace H4 := hid (H4.out.keep hc (fun e => e))
      replace U4 := hid (uUp U4.out hc)
      clear hc hHeld
      have hHeld := HH.out
      refine ⟨_, rfl, hHeld, ?_⟩
      simp only [sA, sB, sC]
      refine tV 7 13 (.agg (look0 N M (some ⟨b, o, none⟩) ic g wc cb vb tb)) rfl (by kernel_rfl) rfl (by rfl) (fun _ _ _ h => h) hHeld (fun W' hw' => by unfold look0; go_simp) ?_
      simp only [sA, sB, sC]
      refine step1 8 (by kernel_rfl) ?_
      refine stNew 8 14 (.pointer (some ⟨v64.heap.size, 0, none⟩)) (.cells (look0 N M (some ⟨b, o, none⟩) ic g wc cb vb tb) 87) rfl rfl (by rfl) (by unfold look0; go_simp) ?_
      have hc := Chg.alloc v64 (.cells (look0 N M (some ⟨b, o, none⟩) ic g wc cb vb tb) 87) No
      have hk := heap_alloc_new v64 (.cells (look0 N M (some ⟨b, o, none⟩) ic g wc cb vb tb) 87)
      obtain ⟨vz, he⟩ : ∃ y, y = v64.alloc (.cells (look0 N M (some ⟨b, o, none⟩) ic g wc cb vb tb) 87) := ⟨_, rfl⟩
      rw [← he] at hc hk ⊢
      have HP : Hid (Beg w vz N M (some ⟨b, o, none⟩) ic im v64.heap.size g wc cb vb tb) := hid ⟨hk, HM.out.keep hc (fun _ _ e => e), H3.out.keep hc (fun e => e), H4.out.keep hc (fun e => e), H5.out.keep hc (fun e => e), H6.out.keep hc (fun e => e), U3.out.1, U4.out.1, U5.out.1, U6.out.1, by have := D54.out; omega, by have := D64.out; omega, by have := D65.out; omega, by have := HZ.out; omega, HC.out.trans hc (fun _ _ e => e) (fun _ _ e => e)⟩
      have hHeld : vz.heap[w.heap.size]? = _ := hc.keep HH.out (fun e => e)
      refine ⟨hHeld, ?_⟩
      simp only [sA, sB, sC]
      refine tV 9 5 (.pointer (some ⟨v64.heap.size, 0, none⟩)) rfl (by kernel_rfl) rfl (by rfl) (fun _ _ _ h => h) hHeld (fun W' hw' => rfl) ?_
      simp only [sA, sB, sC]
      refine wpAnyH_done (by kernel_rfl) ?_ _
      refine NoPanic.normal ?_
      clear hHeld he hc hk
      go_wp2_with fail
      go_meet
      case rel => exact ⟨_, _, _, _, _, _, rfl, HP⟩
 case rest =>
  obtain ⟨p, g, cp, cb, vb, tb, rfl, HP⟩ := hcut
  have hq := queue_any wc
  obtain ⟨w1, hw1⟩ : ∃ y, y = wc.alloc (.cells #[.slice none 0 0] 138) := ⟨_, rfl⟩
  have HW : Hid (w1.heap[wc.heap.size]? = some (.cells #[.slice none 0 0] 138 (0, 0))) := hid (by rw [hw1]; exact heap_alloc_new _ _)
  have HC1 : Hid (Chg wc w1 No) := hid (by rw [hw1]; exact Chg.alloc _ _ _)
  rw [← hw1] at hq
  have me1 := HC1.out.keep HP.out.me (fun e => e)
  have HME := hid me1
  have d7 : w1.cell? ⟨p, 7, none⟩ = some .nilFunc := (cell_of_row _ _ _ _ _ _ me1).trans rfl
  have d8 : w1.cell? ⟨p, 8, none⟩ = some .nilFunc := (cell_of_row _ _ _ _ _ _ me1).trans rfl
  have f7 := frozen_of_row w1 p 7 _ _ me1
  have f8 := frozen_of_row w1 p 8 _ _ me1
  clear me1 hw1
  go_wp2_with (first
   | (go_at_call 49; go_must (refine hq.mono ?_; rintro e w1 ⟨rfl, rfl⟩))
   | fail)
  go_ret
  obtain ⟨w3, hw3⟩ : ∃ y, y = (w1.setCell ⟨p, 7, none⟩ (.func (.func 66) #[] #[.pointer (some ⟨wc.heap.size, 0, none⟩)])).setCell ⟨p, 8, none⟩ (.func (.func 67) #[] #[.pointer (some ⟨wc.heap.size, 0, none⟩)]) := ⟨_, rfl⟩
  rw [← hw3]
  have hc3 : Chg w1 w3 (· = p) := by rw [hw3]; exact (Chg.setCell).trans Chg.setCell (fun _ _ e => e) (fun _ _ e => e)
  have hm3 : w3.heap[p]? = some (.cells (lookV ⟨p, g, cb, vb, tb, wc.heap.size⟩ N M (some ⟨b, o, none⟩) ic cp) 87 (0, 0)) := by
   rw [hw3]
   exact (heap_setCell_same _ p 8 _ _ _ (heap_setCell_same w1 p 7 _ _ _ HME.out)).trans rfl
  have hP := HP.out
  have hB := HB.out
  have hps := slt hP.me
  obtain ⟨A, hA⟩ := (hP.wt.keep HC1.out (fun e => e)).isRow
  obtain ⟨e4, k4, q4⟩ := (hP.h4.keep HC1.out (fun e => e)).isMap
  obtain ⟨e5, k5, q5⟩ := (hP.h5.keep HC1.out (fun e => e)).isMap
  obtain ⟨e6, k6, q6⟩ := (hP.h6.keep HC1.out (fun e => e)).isMap
  have n3 : ¬ g = p := obj_ne hA HME.out (by intro e; cases e)
  have n4 : ¬ cb = p := obj_ne q4 HME.out (by intro e; cases e)
  have n5 : ¬ vb = p := obj_ne q5 HME.out (by intro e; cases e)
  have n6 : ¬ tb = p := obj_ne q6 HME.out (by intro e; cases e)
  have nq : ¬ wc.heap.size = p := by omega
  have hws := hP.ch.size
  have ci3 : ImgAt w3 (some ⟨b, o, none⟩) im := (hP.ci.keep HC1.out (fun _ _ e => e)).keep hc3 (fun k hk e => by
   have h1 := hP.pp
   have h2 := HIB.out
   have h3 : b = k := hk
   omega)
  refine ⟨⟨p, g, cb, vb, tb, wc.heap.size⟩, cp, rfl, ⟨⟨⟨hm3, ci3, HL.out, hB.1, hB.2.1, hB.2.2.1, hB.2.2.2, fun k hk => ?_, hP.b0, hP.b1, hP.b2, hP.b3, hws, hP.cv, hP.ct, hP.vt⟩, ⟨(hP.wt.keep HC1.out (fun e => e)).keep hc3 n3, HL.out, ?_, fun x hx => by cases hx⟩, ?_, fun x hx => by cases hx⟩, ?_, ⟨hws, .slice none 0 0, [], hc3.keep HW.out nq, .inl ⟨rfl, rfl⟩, rfl, fun j l hj => by simp at hj⟩⟩, (hP.ch.trans HC1.out (c := No) (fun _ _ e => e) (fun _ _ e => e)).trans hc3 (fun _ _ e => e) (fun j hj e => by have h1 := hP.pp; omega), hP.pp⟩
  ·have h3 : b = k := hk
   have := HIB.out
   show k < w.heap.size
   omega
  ·have := (hP.h4.keep HC1.out (fun e => e)).keep hc3 n4
   simpa using this
  ·have := (hP.h5.keep HC1.out (fun e => e)).keep hc3 n5
   simpa using this
  ·have := (hP.h6.keep HC1.out (fun e => e)).keep hc3 n6
   simpa using this

end Go.Proofs.YtboammbcoleicabGreat
