/-
  FsckCut: the power goes at any write of Run, and of the next one, and so on: it comes to the same image, by as many writes together.
-/
import Derived.Test.YtboammbcoleicaaGreatGC
import Derived.Test.YtboammbcoleicaaGreatFE
namespace Go.Proofs.YtboammbcoleicaaGreat
open Go.RowKit Go.Shelf

theorem lat_pg {w w' : World} {p g : Nat} {im : Img} {nw : Int} {dn ar : Bool} {lf : Int} {a : Option Addr} {l : List Int} (hd : DK w p g im nw dn ar lf) (hc : Chg w w' (fun k => k = p ∨ k = g)) (h : LAt w a l) : LAt w' a l := by
  rcases h with e | ⟨ga, e, ⟨A, hA⟩, hcell⟩
  · exact .inl e
  · have hne : ¬ (ga = p ∨ ga = g) := by
      rintro (e1 | e1)
      · exact obj_ne hA hd.d.me (by intro e; cases e) e1
      · exact obj_ne hA hd.d.row (by intro e; cases e) e1
    exact .inr ⟨ga, e, ⟨A, hc.keep hA hne⟩, fun k hk => cell_keep (hcell k hk) hc (slt hA) hne⟩
theorem RepC.keep {w0 w w' : World} {p g : Nat} {J im : Img} {nw : Int} {dn ar : Bool} {lf : Int} {M j : Nat} {r : Array Value} (h : RepC w0 w im M j r) (hd : DK w p g J nw dn ar lf) (hc : Chg w w' (fun k => k = p ∨ k = g)) (hp : p < w0.heap.size) (hg : g < w0.heap.size) : RepC w0 w' im M j r := by
  obtain ⟨gw, wc, s1, s2, s3, a1, a2, a3, h1, h2, h3, h4, h5, h6, h7⟩ := h
  exact ⟨gw, wc, s1, s2, s3, a1, a2, a3, h1, h2, h3.keep hc (by omega), lat_pg hd hc h4, lat_pg hd hc h5, lat_pg hd hc h6, h7⟩
theorem RepC.call {w0 w w' : World} {im : Img} {M j : Nat} {r : Array Value} (h : RepC w0 w im M j r) (hc : Chg w w' No) : RepC w0 w' im M j r := by
  obtain ⟨gw, wc, s1, s2, s3, a1, a2, a3, h1, h2, h3, h4, h5, h6, h7⟩ := h
  exact ⟨gw, wc, s1, s2, s3, a1, a2, a3, h1, h2, h3.keep hc (fun e => e), h4.call hc, h5.call hc, h6.call hc, h7⟩
theorem cut_first (im : Img) : CutI im im 0 := by
  by_cases h : ∃ M, II im M
  · obtain ⟨M, hM⟩ := h
    exact .inr ⟨M, hM, Nat.zero_le _, (cut_zero M im).symm⟩
  · exact .inl ⟨fun M hM => h ⟨M, hM⟩, rfl, rfl⟩
theorem arr4 {r : Array Value} (h : r.size = 4) : ∃ v0 v1 v2 v3, r = #[v0, v1, v2, v3] := by
  obtain ⟨l⟩ := r
  match l, h with
  | [v0, v1, v2, v3], _ => exact ⟨v0, v1, v2, v3, rfl⟩
/-- disk.Arm of a disk that has its power. -/
theorem dk_arm {w : World} {p g : Nat} {im : Img} {nw : Int} {ar : Bool} {lf : Int} (h : DK w p g im nw false ar lf) (k : Nat) : Calls Tryz.prog 13 #[.pointer (some ⟨p, 0, none⟩), .int .i64 (k : Int)] w fun e w' => e = .returned (.int .i64 0) ∧ DK w' p g im nw false true k ∧ Chg w w' (fun j => j = p) := by
  refine (D.arm_any (k : Int) w h.d).mono ?_
  rintro e w' ⟨rfl, hd, hm⟩
  have e1 : D.armE ⟨im.flatten, nw, false, ar, lf⟩ (k : Int) = 0 := by unfold D.armE; rw [if_neg (by omega), if_neg (by simp)]
  have e2 : D.armD ⟨im.flatten, nw, false, ar, lf⟩ (k : Int) = ⟨im.flatten, nw, false, true, k⟩ := by unfold D.armD; rw [if_neg (by omega), if_neg (by simp)]
  rw [e2] at hd
  exact ⟨by rw [e1], ⟨hd, h.s⟩, (mod_chg hm).mono fun k _ e => by simpa using e⟩
theorem dk_restart {w : World} {p g : Nat} {im : Img} {nw : Int} {dn ar : Bool} {lf : Int} (h : DK w p g im nw dn ar lf) : Calls Tryz.prog 16 #[.pointer (some ⟨p, 0, none⟩)] w fun e w' => e = .returned (.tuple #[]) ∧ DK w' p g im nw false false 0 ∧ Chg w w' (fun j => j = p) := by
  refine (D.restart_any w h.d).mono ?_
  rintro e w' ⟨rfl, hd, hm⟩
  exact ⟨rfl, ⟨hd, h.s⟩, (mod_chg hm).mono fun k _ e => by simpa using e⟩
theorem dk_writes {w : World} {p g : Nat} {im : Img} {nw : Int} {dn ar : Bool} {lf : Int} (h : DK w p g im nw dn ar lf) : Calls Tryz.prog 15 #[.pointer (some ⟨p, 0, none⟩)] w fun e w' => e = .returned (.int .i64 nw) ∧ w' = w := D.writes_any w h.d
/-- What the first Run came to. -/
def First (w0 w : World) (im : Img) (r : Array Value) (Jd : Img) (kd : Int) : Prop := ((∀ M, ¬ II im M) ∧ lookE im ≠ 0 ∧ r = nil4 ∧ Jd = im ∧ kd = 0) ∨ ∃ M, II im M ∧ Jd = (lookL M im).wt ∧ kd = kW M im ∧ RepC w0 w im M 0 r
theorem First.keep {w0 w w' : World} {p g : Nat} {J im Jd : Img} {kd nw : Int} {dn ar : Bool} {lf : Int} {r : Array Value} (h : First w0 w im r Jd kd) (hd : DK w p g J nw dn ar lf) (hc : Chg w w' (fun k => k = p ∨ k = g)) (hp : p < w0.heap.size) (hg : g < w0.heap.size) : First w0 w' im r Jd kd := by
  rcases h with h | ⟨M, h1, h2, h3, h4⟩
  · exact .inl h
  · exact .inr ⟨M, h1, h2, h3, h4.keep hd hc hp hg⟩
theorem First.call {w0 w w' : World} {im Jd : Img} {kd : Int} {r : Array Value} (h : First w0 w im r Jd kd) (hc : Chg w w' No) : First w0 w' im r Jd kd := by
  rcases h with h | ⟨M, h1, h2, h3, h4⟩
  · exact .inl h
  · exact .inr ⟨M, h1, h2, h3, h4.call hc⟩
/-- A Run that is not cut off. -/
theorem run_g {w : World} {p g : Nat} {im J : Img} {j : Nat} (hJ : CutI im J j) (h : DK w p g J j false false 0) (him : im.length ≤ 4096) :
    Calls Tryz.prog 10 #[.pointer (some ⟨p, 0, none⟩)] w fun e w' => ∃ v0 v1 v2 v3 Jd kd, e = .returned (.tuple #[.agg #[v0, v1, v2, v3], .int .i64 (lookE im)]) ∧ (#[v0, v1, v2, v3] : Array Value).all (·.oneCell') = true ∧ DK w' p g Jd kd false false 0 ∧
      (((∀ M, ¬ II im M) ∧ lookE im ≠ 0 ∧ #[v0, v1, v2, v3] = nil4 ∧ Jd = im ∧ kd = 0) ∨ ∃ M, II im M ∧ Jd = (lookL M im).wt ∧ kd = kW M im ∧ RepC w w' im M j #[v0, v1, v2, v3]) ∧ Jd.length = im.length ∧ Chg w w' (fun k => k = p ∨ k = g) := by
  refine (run_f hJ h him).mono ?_
  rintro e w' ⟨r, rfl, hs, ho, hr, hc⟩
  obtain ⟨v0, v1, v2, v3, rfl⟩ := arr4 hs
  rcases hr with ⟨h1, h2, h3, h4⟩ | ⟨M, h1, h2, h3⟩
  · exact ⟨v0, v1, v2, v3, im, 0, rfl, ho, h4, .inl ⟨h1, h2, h3, rfl, rfl⟩, rfl, hc⟩
  · exact ⟨v0, v1, v2, v3, _, _, rfl, ho, h2, .inr ⟨M, h1, rfl, rfl, h3⟩, (lookL_kp h1.root).1, hc⟩

set_option maxHeartbeats 4000000 in
set_option maxRecDepth 100000 in
theorem cut_walk (s : Int) (a : Option Addr) (l : List Spt) (c : Nat) (ac : Option Addr) (cc : Nat) (cl : List Int) (w : World) (hs : I64 s) (hl : SptsAt w a l) (hok : ∀ x ∈ l, OkSpt x) (hll : l.length ≤ 9223372036854775807) (hcl : LatO w ac cl ∧ ∀ x ∈ cl, I64 x) (hcn : cl.length ≤ 9223372036854775807) :
    Calls Tryz.prog 6 #[.agg #[.int .i64 s, .slice a l.length c], .slice ac cl.length cc] w fun e w' => e = .returned (.bool true) ∧ Below w.heap.size w w' := by
  have hzr := zero_rep
  have HIm : Hid (∀ W, Chg w W No → Calls Tryz.prog 11 #[.agg #[.int .i64 s, .slice a l.length c]] W fun e w' => ∃ g im, e = .returned (.slice (some ⟨g, 0, none⟩) im.length im.length) ∧ 1 ≤ im.length ∧ im.length ≤ 200 ∧ WtAt w' g im ∧ Chg W w' No) := hid (fun W hW => by
    refine (image_any s a l c W hs (hl.keep hW (fun _ _ e => e)) hok hll).mono ?_
    rintro e w' ⟨g, rfl, _, h3, h4⟩
    have hn := nP_bd s
    rw [← picI_len s l] at hn ⊢
    exact ⟨g, picI s l, rfl, hn.1, hn.2, h3, h4⟩)
  have hA := Chg.alloc w (.cells #[.int .i64 s, .slice a l.length c] 25) No
  have hA2 := heap_alloc_new w (.cells #[.int .i64 s, .slice a l.length c] 25)
  have hIm := HIm.out _ hA
  generalize l.length = m at *
  have HA := hid hA
  have HA2 := hid hA2
  have HK := hid known_any
  have HCl := hid hcl
  obtain ⟨cn, hcn0⟩ : ∃ y, y = cl.length := ⟨_, rfl⟩
  have HCn := hid hcn0
  rw [← hcn0] at hcn ⊢
  clear hs hl hok hll hA hA2 hcl hcn0
  go_enter Tryz.func6, Tryz.ntmps6
  go_upto_region 2 with (first
    | (refine load_R rfl 25 _ rfl w.heap.size rfl 25 _ _ HA2.out Tryz.underlying25 rfl (by kernel_rfl) ?_)
    | (go_at_call 11; go_must (refine hIm.mono ?_; rintro e w3 ⟨q, im, rfl, hn1, hn2, hwq, hc3⟩))
    | fail)
  have HC3 := hid (HA.out.tr hc3)
  have HWq := hid hwq
  have HFr : Hid (∀ W, Chg w3 W No → Calls Tryz.prog 12 #[.slice (some ⟨q, 0, none⟩) im.length im.length] W fun e w' => ∃ p g, e = .returned (.tuple #[.pointer (some ⟨p, 0, none⟩), .int .i64 0]) ∧ W.heap.size ≤ p ∧ W.heap.size ≤ g ∧ DK w' p g im 0 false false 0 ∧ Chg W w' No) := hid (fun W hW => dk_from (ic := im.length) (ImgAt.of_wt (HWq.out.keep hW (fun e => e))) hn1 (by omega))
  obtain ⟨n, hn⟩ : ∃ y, y = im.length := ⟨_, rfl⟩
  rw [← hn] at HFr hn1 hn2 ⊢
  have HN := hid hn
  have hF3 := HFr.out w3 (Chg.refl _ _)
  clear hn hwq hc3 hIm HIm
  go_upto_region 3 with (first
    | (go_at_call 12; go_must (refine hF3.mono ?_; rintro e w4 ⟨p, g, rfl, hp4, hg4, hd4, hc4⟩))
    | fail)
  have HC34 := hid hc4
  have HD4 := hid hd4
  have HP4 := hid (And.intro hp4 hg4)
  have hF4 := HFr.out w4 hc4
  clear hF3 hd4 hc4 hp4 hg4
  go_upto_region 4 with (first
    | (go_at_call 12; go_must (refine hF4.mono ?_; rintro e w5 ⟨p2, g2, rfl, hp5, hg5, hd5, hc5⟩))
    | fail)
  have HC45 := hid hc5
  have HD5 := hid hd5
  have HPG : Hid (p < w4.heap.size ∧ g < w4.heap.size ∧ w4.heap.size ≤ p2 ∧ w4.heap.size ≤ g2 ∧ w.heap.size ≤ p ∧ w.heap.size ≤ g ∧ w.heap.size ≤ p2 ∧ w.heap.size ≤ g2) := hid (by have := HD4.out.lt; have := HP4.out; have := HC3.out.size; have := HC34.out.size; omega)
  have hK5 := HK.out w5
  clear hF4 hd5 hc5 hp5 hg5
  go_upto_region 6 with (first
    | (go_at_call 9; go_must (refine hK5.mono ?_; rintro e w6 ⟨rfl, hc6⟩))
    | fail)
  have HC6 : Hid (Chg w w6 No) := hid (((HC3.out.tr HC34.out).tr HC45.out).tr hc6)
  have HDd : Hid (DK w6 p g im ((0 : Nat) : Int) false false 0) := hid ((HD4.out.call HC45.out).call hc6)
  have HDc : Hid (DK w6 p2 g2 im ((0 : Nat) : Int) false false 0) := hid (HD5.out.call hc6)
  have hR := run_g (cut_first im) HDd.out (by rw [← HN.out]; omega)
  have HLt : Hid (p < w6.heap.size ∧ g < w6.heap.size ∧ p2 < w6.heap.size ∧ g2 < w6.heap.size) := hid (by have := HDd.out.lt; have := HDc.out.lt; omega)
  clear hc6 hK5
  obtain ⟨gE, hgE⟩ : ∃ y, y = lookE im := ⟨_, rfl⟩
  have HGE := hid hgE
  rw [← hgE] at hR
  clear hgE
  go_upto_region 7 with (first
    | (go_at_call 10; go_must (refine hR.mono ?_; rintro e w7 ⟨v0, v1, v2, v3, Jd, kd, rfl, hone, hd7, hf7, hl7, hc7⟩))
    | (refine store_R rfl 29 _ _ rfl w7.heap.size #[v0, v1, v2, v3] rfl rfl 29 _ (heap_alloc_new _ _) szRep rfl hone ?_; intro w8 hw8)
    | fail)
  have h78 : Chg w7 w8 No := (Chg.alloc w7 _ No).trans (kt_new hw8) (fun _ _ e => e) (fun j hj e => by omega)
  have h67 : Chg w6 w7 (fun k => k = p ∨ k = g) := hc7
  have HF8 : Hid (First w6 w8 im #[v0, v1, v2, v3] Jd kd) := hid (First.call (w := w7) (by
    rcases hf7 with h | h
    · exact .inl (by rw [HGE.out] at h; exact h)
    · exact .inr h) h78)
  have HDd8 := hid (hd7.call h78)
  have HDc8 : Hid (DK w8 p2 g2 im ((0 : Nat) : Int) false false 0) := hid ((HDc.out.keep h67 (by have := HPG.out; omega) (by have := HPG.out; omega)).call h78)
  have HC8 : Hid (Chg w w8 No) := hid ((HC6.out.trans h67 (c := No) (fun _ _ e => e) (fun j hj e => by have := HPG.out; omega)).tr h78)
  have HL8 : Hid (Jd.length = n) := hid (by rw [HN.out]; exact hl7)
  have HG8 := hid hw8.here
  obtain ⟨b8, hb8⟩ : ∃ y, y = w7.heap.size := ⟨_, rfl⟩
  rw [← hb8] at HG8 ⊢
  have HB8 : Hid (p < b8 ∧ g < b8 ∧ p2 < b8 ∧ g2 < b8 ∧ w6.heap.size ≤ b8) := hid (by have := HLt.out; have := hc7.size; omega)
  clear hR hd7 hf7 hl7 hc7 hw8 hb8 h78 h67 hone
  have HCc : Hid (∀ (W' : World) (_hW : Chg w8 W' (fun k => k = p2 ∨ k = g2)), Chg w W' No) := hid (fun W' hW => HC8.out.trans hW (fun _ _ e => e) (fun j hj e => by have := HPG.out; omega))
  have HDc9 := HDc8
  go_wp2_with fail
  go_loopw [12] (fun x wr => ∃ (i j : Nat) (J : Img), x = .int .i64 i ∧ i ≤ cn ∧ Hid (CutI im J j) ∧ Hid (DK wr p2 g2 J j false false 0) ∧ Hid (Chg w8 wr (fun k => k = p2 ∨ k = g2))) (fun x _ => cn - (intOf x).toNat)
  case atStart => exact ⟨0, 0, im, rfl, by omega, hid (cut_first im), HDc8, hid (Chg.refl _ _)⟩
  case round =>
    clear HDc8
    obtain ⟨i, j, J, rfl, hi, HCu, HDj, HCj⟩ := hrel
    have HFin : Hid (∀ (W' : World), Chg wr W' No → W' = W') := hid (fun _ _ => rfl)
    clear HFin
    by_cases hlt : i < cn ∧ i < 20
    · obtain ⟨hl1, hl2⟩ := hlt
      have k1 : (i : Int) < (cn : Int) := by omega
      have k2 : (i : Int) < 20 := by omega
      have k0 : (0 : Int) ≤ (i : Int) := by omega
      obtain ⟨gc, oc, hac, _, hcc⟩ : ∃ g o, ac = some ⟨g, o, none⟩ ∧ g < wr.heap.size ∧ ∀ k, k < cl.length → wr.cell? ⟨g, o + k, none⟩ = some (.int .i64 (cl.getD k 0)) := by
        rcases HCl.out.1.call (HCc.out wr HCj.out) with e | e
        · have := HCn.out; rw [e] at this; simp at this; omega
        · exact e
      subst hac
      have hci := hcc i (by rw [← HCn.out]; exact hl1)
      have hcI : I64 (cl.getD i 0) := HCl.out.2 _ (by
        have : i < cl.length := by rw [← HCn.out]; exact hl1
        rw [List.getD_eq_getElem?_getD, List.getElem?_eq_getElem this]
        exact List.getElem_mem this)
      obtain ⟨z, hz⟩ : ∃ y, y = cl.getD i 0 := ⟨_, rfl⟩
      rw [← hz] at hci hcI
      have hPk := fun W => pick_any z 6 W hcI (by omega) (by omega)
      obtain ⟨pk, hpk⟩ : ∃ y : Nat, (y : Int) = pickN z 6 := ⟨(pickN z 6).toNat, by have := pickN_bd z (n := 6) (by omega); omega⟩
      have hpb : pk < 6 := by have := pickN_bd z (n := 6) (by omega); omega
      rw [← hpk] at hPk
      have hAr := dk_arm HDj.out pk
      clear hz hpk hcI hcc
      go_upto_region 11 with (first
        | (go_at_call 20; go_must (refine (hPk wr).mono ?_; rintro e w9 ⟨rfl, hw9⟩; obtain rfl : wr = w9 := hw9.symm))
        | (go_at_call 13; go_must (refine hAr.mono ?_; rintro e w9 ⟨rfl, hd9, hc9⟩))
        | fail)
      have HC9 : Hid (Chg w8 w9 (fun k => k = p2 ∨ k = g2)) := hid (HCj.out.trans hc9 (fun _ _ e => e) (fun _ _ e => .inl e))
      have hRc := run_c HCu.out hd9 (by rw [← HN.out]; omega) (by omega)
      rw [← HGE.out] at hRc
      have HD9 := hid hd9
      clear hAr hPk hd9 hc9 hci
      go_upto_region 12 with (first
        | (go_at_call 10; go_must (refine hRc.mono ?_; rintro e w10 ⟨r, E, rfl, hrs, hro, hE, ⟨J', j', dn, ar', lf', hcu', hd10⟩, hc10⟩; obtain ⟨x0, x1, x2, x3, rfl⟩ := arr4 hrs))
        | (refine store_R rfl 29 _ _ rfl w10.heap.size #[x0, x1, x2, x3] rfl rfl 29 _ (heap_alloc_new _ _) szRep rfl hro ?_; intro w11 hw11)
        | fail)
      have h1011 : Chg w10 w11 No := (Chg.alloc w10 _ No).trans (kt_new hw11) (fun _ _ e => e) (fun j hj e => by omega)
      have HC11 : Hid (Chg w8 w11 (fun k => k = p2 ∨ k = g2)) := hid ((HC9.out.trans hc10 (fun _ _ e => e) (fun _ _ e => e)).trans h1011 (fun _ _ e => e) (fun _ _ e => e.elim))
      have HCu' := hid hcu'
      have hRs := dk_restart (hd10.call h1011)
      clear hRc hc10 hd10 hcu' h1011 hw11 hrs hro
      by_cases hEg : E = gE
      · subst hEg
        clear hE
        go_wp2_with (first
          | (go_at_call 16; go_must (refine hRs.mono ?_; rintro e w12 ⟨rfl, hd12, hc12⟩; have HD12 := hid hd12; have HC12 : Hid (Chg w8 w12 (fun k => k = p2 ∨ k = g2)) := hid (HC11.out.trans hc12 (fun _ _ e => e) (fun _ _ e => .inl e)); clear hd12 hc12))
          | fail)
        exact ⟨⟨i + 1, j', J', by go_num, by omega, HCu', HD12, HC12⟩, by simp [intOf]; omega⟩
      · obtain rfl : E = 22 := hE.resolve_left hEg
        have hEb : ((22 : Int) == gE) = false := beq_false_of_ne hEg
        clear hE hEg
        go_wp2_with (first
          | (go_at_call 16; go_must (refine hRs.mono ?_; rintro e w12 ⟨rfl, hd12, hc12⟩; have HD12 := hid hd12; have HC12 : Hid (Chg w8 w12 (fun k => k = p2 ∨ k = g2)) := hid (HC11.out.trans hc12 (fun _ _ e => e) (fun _ _ e => .inl e)); clear hd12 hc12))
          | fail)
        all_goals exact ⟨⟨i + 1, j', J', by go_num, by omega, HCu', HD12, HC12⟩, by simp [intOf]; omega⟩
    · have HDdr : Hid (DK wr p g Jd kd false false 0) := hid (HDd8.out.keep HCj.out (by have := HPG.out; omega) (by have := HPG.out; omega))
      have HFr9 : Hid (First w6 wr im #[v0, v1, v2, v3] Jd kd) := hid (HF8.out.keep HDc9.out HCj.out HLt.out.2.2.1 HLt.out.2.2.2)
      have HG9 := hid (HCj.out.keep HG8.out (by have := HB8.out; omega))
      have HCw := hid (HCc.out wr HCj.out)
      have hR2 := run_g HCu.out HDj.out (by rw [← HN.out]; omega)
      rw [← HGE.out] at hR2
      have hst2 : ¬ ((i : Int) < (cn : Int)) ∨ ((i : Int) < (cn : Int) ∧ ¬ (i : Int) < 20) := by
        by_cases e : i < cn
        · exact .inr ⟨by omega, fun e2 => hlt ⟨e, by omega⟩⟩
        · exact .inl (by omega)
      clear hlt hi
      rcases hst2 with e1 | ⟨e1, e2⟩
      · go_upto_region 16 with (first
          | (go_at_call 10; go_must (refine hR2.mono ?_; rintro e w13 ⟨y0, y1, y2, y3, Jc, kc, rfl, hone2, hd13, hf13, hl13, hc13⟩))
          | (refine store_R rfl 29 _ _ rfl w13.heap.size #[y0, y1, y2, y3] rfl rfl 29 _ (heap_alloc_new _ _) szRep rfl hone2 ?_; intro w14 hw14)
          | fail)
        have h1314 : Chg w13 w14 No := (Chg.alloc w13 _ No).trans (kt_new hw14) (fun _ _ e => e) (fun j hj e => by omega)
        have HCr14 : Hid (Chg wr w14 (fun k => k = p2 ∨ k = g2)) := hid (hc13.trans h1314 (fun _ _ e => e) (fun _ _ e => e.elim))
        have HF14 : Hid (First w6 w14 im #[v0, v1, v2, v3] Jd kd) := hid ((HFr9.out.keep HDj.out hc13 HLt.out.2.2.1 HLt.out.2.2.2).call h1314)
        have HDd14 : Hid (DK w14 p g Jd kd false false 0) := hid (HDdr.out.keep HCr14.out (by have := HPG.out; omega) (by have := HPG.out; omega))
        obtain ⟨hJJ, hkk⟩ : Jc = Jd ∧ kc = kd := by
          rcases hf13 with ⟨h1, _, _, h4, h5⟩ | ⟨M, h1, h2, h3, _⟩
          · rcases HF14.out with ⟨_, _, _, k4, k5⟩ | ⟨M', k1, _⟩
            · exact ⟨h4.trans k4.symm, h5.trans k5.symm⟩
            · exact absurd k1 (h1 M')
          · rcases HF14.out with ⟨k1, _⟩ | ⟨M', k1, k2, k3, _⟩
            · exact absurd h1 (k1 M)
            · obtain rfl : M = M' := k1.one h1
              exact ⟨h2.trans k2.symm, h3.trans k3.symm⟩
        subst hJJ hkk
        have HDc14 : Hid (DK w14 p2 g2 Jc kc false false 0) := hid (hd13.call h1314)
        have HF13 : Hid (((∀ M, ¬ II im M) ∧ gE ≠ 0) ∨ ∃ M, II im M ∧ gE = 0 ∧ RepC wr w14 im M j #[y0, y1, y2, y3]) := hid (by
          rcases hf13 with ⟨h1, h2, _⟩ | ⟨M, h1, _, _, h4⟩
          · exact .inl ⟨h1, h2⟩
          · exact .inr ⟨M, h1, by rw [HGE.out]; exact ii_zero h1, h4.call h1314⟩)
        have HG14 := hid hw14.here
        have HG814 := hid (HCr14.out.keep HG9.out (by have := HB8.out; omega))
        obtain ⟨b14, hb14⟩ : ∃ y, y = w13.heap.size := ⟨_, rfl⟩
        rw [← hb14] at HG14 ⊢
        have HC14 : Hid (Chg w w14 No) := hid (HCw.out.trans HCr14.out (fun _ _ e => e) (fun j hj e => by have := HPG.out; omega))
        have HIm : Hid (∀ (W : World) (pp gg : Nat), DK W pp gg Jc kc false false 0 → Calls Tryz.prog 18 #[.pointer (some ⟨pp, 0, none⟩)] W fun e w' => ∃ q, e = .returned (.slice (some ⟨q, 0, none⟩) n n) ∧ WtAt w' q Jc ∧ Chg W w' No) := hid (fun W pp gg h => by
          have := dk_image h
          rw [HL8.out] at this
          refine this.mono ?_
          rintro e w' ⟨q, h1, _, h3, h4⟩
          exact ⟨q, h1, h3, h4⟩)
        have HSm : Hid (∀ (W : World) (x y xc yc : Nat), WtAt W x Jc → WtAt W y Jc → Calls Tryz.prog 17 #[.slice (some ⟨x, 0, none⟩) n xc, .slice (some ⟨y, 0, none⟩) n yc] W fun e w' => e = .returned (.bool true) ∧ Chg W w' No) := hid (fun W x y xc yc h1 h2 => by
          have := secs_same Jc (some ⟨x, 0, none⟩) (some ⟨y, 0, none⟩) xc yc W (by rw [HL8.out]; omega) (ImgAt.of_wt h1) (ImgAt.of_wt h2)
          rw [HL8.out] at this
          exact this)
        have hI1 := HIm.out w14 p2 g2 HDc14.out
        clear hR2 hd13 hf13 hl13 hc13 h1314 hw14 hb14 hone2
        go_upto_region 18 with (first
          | (go_at_call 18; go_must (first
              | (refine (HIm.out w15 p g (HDd14.out.call hc15)).mono ?_; rintro e w16 ⟨q2, rfl, hq2, hc16⟩; have hS16 := HSm.out w16 q1 q2 n n (hq1.keep hc16 (fun e => e)) hq2)
              | (refine hI1.mono ?_; rintro e w15 ⟨q1, rfl, hq1, hc15⟩)))
          | (go_at_call 17; go_must (refine hS16.mono ?_; rintro e w17 ⟨rfl, hc17⟩; have hWc := dk_writes (HDc14.out.call ((hc15.tr hc16).tr hc17)); have hWd := dk_writes (HDd14.out.call ((hc15.tr hc16).tr hc17))))
          | (go_at_call 15; go_must (first
              | (refine hWd.mono ?_; rintro e w18 ⟨rfl, hw18⟩; obtain rfl : w17 = w18 := hw18.symm)
              | (refine hWc.mono ?_; rintro e w18 ⟨rfl, hw18⟩; obtain rfl : w17 = w18 := hw18.symm)))
          | fail)
        have H1417 := hid ((hc15.tr hc16).tr hc17)
        have HC17 := hid (HC14.out.tr H1417.out)
        have HDd17 := hid (HDd14.out.call H1417.out)
        have HF17 := hid (HF14.out.call H1417.out)
        have HG17 := hid (H1417.out.keep HG14.out (fun e => e))
        have HG817 := hid (H1417.out.keep HG814.out (fun e => e))
        clear hc15 hc16 hc17 hq1 hq2 hS16 hWc hWd hI1
        rcases HF13.out with ⟨hbad, hg0⟩ | ⟨M, hii, hg0, hrep⟩
        · have HG0 := hid hg0
          clear hbad hg0
          refine wp_region_noPanic ?_
          refine wp_region_held_drew (S := fun w' => Chg w17 w' No) (by kernel_rfl) (Chg.refl _ _).drew (fun hHeld => ?_)
          refine takeVal 0 106 (.int .i64 gE) rfl (by kernel_rfl) (by kernel_rfl) (by kernel_rfl) rfl (by rfl) (fun _ _ _ h => h) hHeld (fun _ hw' => rfl) ?_
          simp only [List.setIfInBounds_toArray, List.set_cons_zero, List.set_cons_succ]
          refine takeVal 1 107 (.bool true) rfl (by kernel_rfl) (by kernel_rfl) (by kernel_rfl) rfl (by rfl) (fun _ _ _ h => h) hHeld (fun _ hw' => by go_simp; first | exact HG0.out | exact bne_iff_ne.2 HG0.out | simp [HG0.out]) ?_
          simp only [List.setIfInBounds_toArray, List.set_cons_zero, List.set_cons_succ]
          refine takeVal 2 108 (.bool true) rfl (by kernel_rfl) (by kernel_rfl) (by kernel_rfl) rfl (by rfl) (fun _ _ _ h => h) hHeld (fun _ hw' => rfl) ?_
          simp only [List.setIfInBounds_toArray, List.set_cons_zero, List.set_cons_succ]
          refine takeNot 3 109 rfl (by kernel_rfl) (by kernel_rfl) (by kernel_rfl) rfl (by rfl) (fun _ _ _ h => h) hHeld ?_
          simp only [List.setIfInBounds_toArray, List.set_cons_zero, List.set_cons_succ]
          refine takeNot 4 110 rfl (by kernel_rfl) (by kernel_rfl) (by kernel_rfl) rfl (by rfl) (fun _ _ _ h => h) hHeld ?_
          simp only [List.setIfInBounds_toArray, List.set_cons_zero, List.set_cons_succ]
          refine takeNot 5 111 rfl (by kernel_rfl) (by kernel_rfl) (by kernel_rfl) rfl (by rfl) (fun _ _ _ h => h) hHeld ?_
          simp only [List.setIfInBounds_toArray, List.set_cons_zero, List.set_cons_succ]
          refine takeNot 6 112 rfl (by kernel_rfl) (by kernel_rfl) (by kernel_rfl) rfl (by rfl) (fun _ _ _ h => h) hHeld ?_
          simp only [List.setIfInBounds_toArray, List.set_cons_zero, List.set_cons_succ]
          refine takeNot 7 113 rfl (by kernel_rfl) (by kernel_rfl) (by kernel_rfl) rfl (by rfl) (fun _ _ _ h => h) hHeld ?_
          simp only [List.setIfInBounds_toArray, List.set_cons_zero, List.set_cons_succ]
          refine takeNot 8 114 rfl (by kernel_rfl) (by kernel_rfl) (by kernel_rfl) rfl (by rfl) (fun _ _ _ h => h) hHeld ?_
          simp only [List.setIfInBounds_toArray, List.set_cons_zero, List.set_cons_succ]
          refine takeNot 9 115 rfl (by kernel_rfl) (by kernel_rfl) (by kernel_rfl) rfl (by rfl) (fun _ _ _ h => h) hHeld ?_
          simp only [List.setIfInBounds_toArray, List.set_cons_zero, List.set_cons_succ]
          refine takeNot 10 116 rfl (by kernel_rfl) (by kernel_rfl) (by kernel_rfl) rfl (by rfl) (fun _ _ _ h => h) hHeld ?_
          simp only [List.setIfInBounds_toArray, List.set_cons_zero, List.set_cons_succ]
          refine takeNot 11 117 rfl (by kernel_rfl) (by kernel_rfl) (by kernel_rfl) rfl (by rfl) (fun _ _ _ h => h) hHeld ?_
          simp only [List.setIfInBounds_toArray, List.set_cons_zero, List.set_cons_succ]
          refine takeNot 12 118 rfl (by kernel_rfl) (by kernel_rfl) (by kernel_rfl) rfl (by rfl) (fun _ _ _ h => h) hHeld ?_
          simp only [List.setIfInBounds_toArray, List.set_cons_zero, List.set_cons_succ]
          refine takeNot 13 119 rfl (by kernel_rfl) (by kernel_rfl) (by kernel_rfl) rfl (by rfl) (fun _ _ _ h => h) hHeld ?_
          simp only [List.setIfInBounds_toArray, List.set_cons_zero, List.set_cons_succ]
          refine takeNot 14 120 rfl (by kernel_rfl) (by kernel_rfl) (by kernel_rfl) rfl (by rfl) (fun _ _ _ h => h) hHeld ?_
          simp only [List.setIfInBounds_toArray, List.set_cons_zero, List.set_cons_succ]
          refine takeNot 15 121 rfl (by kernel_rfl) (by kernel_rfl) (by kernel_rfl) rfl (by rfl) (fun _ _ _ h => h) hHeld ?_
          simp only [List.setIfInBounds_toArray, List.set_cons_zero, List.set_cons_succ]
          refine takeNot 16 122 rfl (by kernel_rfl) (by kernel_rfl) (by kernel_rfl) rfl (by rfl) (fun _ _ _ h => h) hHeld ?_
          simp only [List.setIfInBounds_toArray, List.set_cons_zero, List.set_cons_succ]
          refine takeNot 17 123 rfl (by kernel_rfl) (by kernel_rfl) (by kernel_rfl) rfl (by rfl) (fun _ _ _ h => h) hHeld ?_
          simp only [List.setIfInBounds_toArray, List.set_cons_zero, List.set_cons_succ]
          refine takeNot 18 124 rfl (by kernel_rfl) (by kernel_rfl) (by kernel_rfl) rfl (by rfl) (fun _ _ _ h => h) hHeld ?_
          simp only [List.setIfInBounds_toArray, List.set_cons_zero, List.set_cons_succ]
          refine takeNot 19 125 rfl (by kernel_rfl) (by kernel_rfl) (by kernel_rfl) rfl (by rfl) (fun _ _ _ h => h) hHeld ?_
          simp only [List.setIfInBounds_toArray, List.set_cons_zero, List.set_cons_succ]
          refine takeNot 20 126 rfl (by kernel_rfl) (by kernel_rfl) (by kernel_rfl) rfl (by rfl) (fun _ _ _ h => h) hHeld ?_
          simp only [List.setIfInBounds_toArray, List.set_cons_zero, List.set_cons_succ]
          refine takeNot 21 127 rfl (by kernel_rfl) (by kernel_rfl) (by kernel_rfl) rfl (by rfl) (fun _ _ _ h => h) hHeld ?_
          simp only [List.setIfInBounds_toArray, List.set_cons_zero, List.set_cons_succ]
          refine takeNot 22 128 rfl (by kernel_rfl) (by kernel_rfl) (by kernel_rfl) rfl (by rfl) (fun _ _ _ h => h) hHeld ?_
          simp only [List.setIfInBounds_toArray, List.set_cons_zero, List.set_cons_succ]
          refine takeNot 23 129 rfl (by kernel_rfl) (by kernel_rfl) (by kernel_rfl) rfl (by rfl) (fun _ _ _ h => h) hHeld ?_
          simp only [List.setIfInBounds_toArray, List.set_cons_zero, List.set_cons_succ]
          refine takeNot 24 130 rfl (by kernel_rfl) (by kernel_rfl) (by kernel_rfl) rfl (by rfl) (fun _ _ _ h => h) hHeld ?_
          simp only [List.setIfInBounds_toArray, List.set_cons_zero, List.set_cons_succ]
          refine takeNot 25 131 rfl (by kernel_rfl) (by kernel_rfl) (by kernel_rfl) rfl (by rfl) (fun _ _ _ h => h) hHeld ?_
          simp only [List.setIfInBounds_toArray, List.set_cons_zero, List.set_cons_succ]
          refine takeNot 26 132 rfl (by kernel_rfl) (by kernel_rfl) (by kernel_rfl) rfl (by rfl) (fun _ _ _ h => h) hHeld ?_
          simp only [List.setIfInBounds_toArray, List.set_cons_zero, List.set_cons_succ]
          refine takeNot 27 133 rfl (by kernel_rfl) (by kernel_rfl) (by kernel_rfl) rfl (by rfl) (fun _ _ _ h => h) hHeld ?_
          simp only [List.setIfInBounds_toArray, List.set_cons_zero, List.set_cons_succ]
          refine takeNot 28 134 rfl (by kernel_rfl) (by kernel_rfl) (by kernel_rfl) rfl (by rfl) (fun _ _ _ h => h) hHeld ?_
          simp only [List.setIfInBounds_toArray, List.set_cons_zero, List.set_cons_succ]
          refine takeVal 29 135 (.bool true) rfl (by kernel_rfl) (by kernel_rfl) (by kernel_rfl) rfl (by rfl) (fun _ _ _ h => h) hHeld (fun _ hw' => rfl) ?_
          simp only [List.setIfInBounds_toArray, List.set_cons_zero, List.set_cons_succ]
          refine takeVal 30 4 (.bool true) rfl (by kernel_rfl) (by kernel_rfl) (by kernel_rfl) rfl (by rfl) (fun _ _ _ h => h) hHeld (fun _ hw' => rfl) ?_
          simp only [List.setIfInBounds_toArray, List.set_cons_zero, List.set_cons_succ]
          refine wpAnyH_done (by kernel_rfl) ?_ _
          refine NoPanic.normal ?_
          have HCf : Hid (Chg w w17.drew No) := hid (HC17.out.tr hHeld)
          clear hHeld
          go_wp2_with fail
          go_ret
          exact ⟨rfl, HCf.out.below⟩
        · subst hg0
          have hF := HF17.out
          obtain ⟨_, hJ, _, hrep0⟩ : ∃ M', Jc = (lookL M im).wt ∧ M' = M ∧ RepC w6 w17 im M 0 #[v0, v1, v2, v3] := by
            rcases hF with ⟨k1, _⟩ | ⟨M', k1, k2, _, k4⟩
            · exact absurd hii (k1 M)
            · obtain rfl : M = M' := k1.one hii
              exact ⟨M, k2, rfl, k4⟩
          have hrep17 := hrep.call H1417.out
          obtain ⟨gw, wc, s1, s2, s3, a1, a2, a3, er, _, hwt, _, hl2, hl3, _⟩ := hrep0
          obtain ⟨gx, xc, t1, t2, t3, c1, c2, c3, ey, _, hwx, _, hm2, hm3, _⟩ := hrep17
          rw [← hJ] at hwt hwx
          have HWt := hid hwt
          have HWx := hid hwx
          have HL2 := hid hl2
          have HL3 := hid hl3
          have HM2 := hid hm2
          have HM3 := hid hm3
          obtain ⟨Il, hIl⟩ : ∃ y, y = inodesI M (lookL M im) := ⟨_, rfl⟩
          obtain ⟨Bl, hBl⟩ : ∃ y, y = blocksI im (lookL M im) := ⟨_, rfl⟩
          have HIb : Hid (Il.length ≤ 20000 ∧ Bl.length ≤ 20000) := hid (by
            rw [hIl, hBl]
            have := keysL_len (M + 1) fun x => ((lookL M im).tk x).isSome
            have := keysL_len im.length (lookL M im).cl
            have := hii.ml
            have := hii.n2
            unfold inodesI blocksI
            omega)
          rw [← hIl] at er ey HL2 HM2
          rw [← hBl] at er ey HL3 HM3
          rw [← HN.out] at er ey
          rw [er] at HG817
          rw [ey] at HG17
          generalize kW M im - 0 = k1 at *
          generalize kW M im - j = k2 at *
          obtain ⟨il, hil⟩ : ∃ y, y = Il.length := ⟨_, rfl⟩
          obtain ⟨bl, hbl⟩ : ∃ y, y = Bl.length := ⟨_, rfl⟩
          have HiL := hid hil
          have HbL := hid hbl
          rw [← hil, ← hbl] at HG817 HG17
          have HQ : Hid (∀ (W' : World) (_hW : Chg w17 W' No), W'.cell? ⟨b8, 0, none⟩ = some (.slice (some ⟨gw, 0, none⟩) n wc) ∧ W'.cell? ⟨b8, 2, none⟩ = some (.slice a2 il s2) ∧ W'.cell? ⟨b8, 3, none⟩ = some (.slice a3 bl s3)) := hid (fun W' hW => by
            have h0 := hW.keep HG817.out (fun e => e)
            exact ⟨(cell_of_row _ _ _ _ _ _ h0).trans rfl, (cell_of_row _ _ _ _ _ _ h0).trans rfl, (cell_of_row _ _ _ _ _ _ h0).trans rfl⟩)
          have HP : Hid (∀ (W' : World) (_hW : Chg w17 W' No), W'.cell? ⟨b14, 0, none⟩ = some (.slice (some ⟨gx, 0, none⟩) n xc) ∧ W'.cell? ⟨b14, 2, none⟩ = some (.slice c2 il t2) ∧ W'.cell? ⟨b14, 3, none⟩ = some (.slice c3 bl t3)) := hid (fun W' hW => by
            have h0 := hW.keep HG17.out (fun e => e)
            exact ⟨(cell_of_row _ _ _ _ _ _ h0).trans rfl, (cell_of_row _ _ _ _ _ _ h0).trans rfl, (cell_of_row _ _ _ _ _ _ h0).trans rfl⟩)
          have hQ0 := fun W' (hW : Chg w17 W' No) => (HQ.out W' hW).1
          have hQ2 := fun W' (hW : Chg w17 W' No) => (HQ.out W' hW).2.1
          have hQ3 := fun W' (hW : Chg w17 W' No) => (HQ.out W' hW).2.2
          have hP0 := fun W' (hW : Chg w17 W' No) => (HP.out W' hW).1
          have hP2 := fun W' (hW : Chg w17 W' No) => (HP.out W' hW).2.1
          have hP3 := fun W' (hW : Chg w17 W' No) => (HP.out W' hW).2.2
          have HSi2 : Hid (∀ (W' : World) (_hW : Chg w17 W' No), Calls Tryz.prog 28 #[.slice c2 il t2, .slice a2 il s2] W' fun e w' => e = .returned (.bool true) ∧ Chg W' w' No) := hid (fun W' hW => by
            have hq := ints_like Il c2 a2 t2 s2 W' HIb.out.1 ((LatO.of HM2.out).call hW) ((LatO.of HL2.out).call hW)
            rw [← HiL.out] at hq
            exact hq)
          have HSi3 : Hid (∀ (W' : World) (_hW : Chg w17 W' No), Calls Tryz.prog 28 #[.slice c3 bl t3, .slice a3 bl s3] W' fun e w' => e = .returned (.bool true) ∧ Chg W' w' No) := hid (fun W' hW => by
            have hq := ints_like Bl c3 a3 t3 s3 W' HIb.out.2 ((LatO.of HM3.out).call hW) ((LatO.of HL3.out).call hW)
            rw [← HbL.out] at hq
            exact hq)
          clear er ey hIl hBl hil hbl hwt hwx hl2 hl3 hm2 hm3 hJ hF hrep
          refine wp_region_noPanic ?_
          refine wp_region_held_drew (S := fun w' => Chg w17 w' No) (by kernel_rfl) (Chg.refl _ _).drew (fun hHeld => ?_)
          refine takeVal 0 106 (.int .i64 0) rfl (by kernel_rfl) (by kernel_rfl) (by kernel_rfl) rfl (by rfl) (fun _ _ _ h => h) hHeld (fun _ hw' => rfl) ?_
          simp only [List.setIfInBounds_toArray, List.set_cons_zero, List.set_cons_succ]
          refine takeVal 1 107 (.bool false) rfl (by kernel_rfl) (by kernel_rfl) (by kernel_rfl) rfl (by rfl) (fun _ _ _ h => h) hHeld (fun _ hw' => by clear hQ0 hQ2 hQ3 hP0 hP2 hP3; go_simp) ?_
          simp only [List.setIfInBounds_toArray, List.set_cons_zero, List.set_cons_succ]
          refine takeVal 2 108 (.bool false) rfl (by kernel_rfl) (by kernel_rfl) (by kernel_rfl) rfl (by rfl) (fun _ _ _ h => h) hHeld (fun _ hw' => rfl) ?_
          simp only [List.setIfInBounds_toArray, List.set_cons_zero, List.set_cons_succ]
          refine takeVal 3 109 (.pointer (some ⟨b8, 0, none⟩)) rfl (by kernel_rfl) (by kernel_rfl) (by kernel_rfl) rfl (by rfl) (fun _ _ _ h => h) hHeld (fun _ hw' => by clear hQ0 hQ2 hQ3 hP0 hP2 hP3; go_simp) ?_
          simp only [List.setIfInBounds_toArray, List.set_cons_zero, List.set_cons_succ]
          refine takeVal 4 110 (.slice (some ⟨gw, 0, none⟩) n wc) rfl (by kernel_rfl) (by kernel_rfl) (by kernel_rfl) rfl (by rfl) (fun _ _ _ h => h) hHeld (fun _ hw' => by have hc := hQ0 _ hw'; clear hQ0 hQ2 hQ3 hP0 hP2 hP3; go_simp) ?_
          simp only [List.setIfInBounds_toArray, List.set_cons_zero, List.set_cons_succ]
          refine takeVal 5 111 (.pointer (some ⟨p, 0, none⟩)) rfl (by kernel_rfl) (by kernel_rfl) (by kernel_rfl) rfl (by rfl) (fun _ _ _ h => h) hHeld (fun _ hw' => rfl) ?_
          simp only [List.setIfInBounds_toArray, List.set_cons_zero, List.set_cons_succ]
          refine step1 6 (by kernel_rfl) ?_
          refine stCall 6 112 18 #[.pointer (some ⟨p, 0, none⟩)] _ rfl rfl (by rfl) (by clear hQ0 hQ2 hQ3 hP0 hP2 hP3; go_simp) (HIm.out _ p g (HDd17.out.call hHeld)) ?_
          rintro e w18 ⟨q9, rfl, hq9, hcc⟩
          refine ⟨_, rfl, hHeld.tr hcc, ?_⟩
          replace hHeld := hHeld.tr hcc
          simp only [List.setIfInBounds_toArray, List.set_cons_zero, List.set_cons_succ]
          refine step1 7 (by kernel_rfl) ?_
          refine stCall 7 113 17 #[.slice (some ⟨gw, 0, none⟩) n wc, .slice (some ⟨q9, 0, none⟩) n n] _ rfl rfl (by rfl) (by clear hQ0 hQ2 hQ3 hP0 hP2 hP3; go_simp) (HSm.out _ gw q9 wc n (HWt.out.keep hHeld (fun e => e)) hq9) ?_
          rintro e w19 ⟨rfl, hcc⟩
          refine ⟨_, rfl, hHeld.tr hcc, ?_⟩
          replace hHeld := hHeld.tr hcc
          simp only [List.setIfInBounds_toArray, List.set_cons_zero, List.set_cons_succ]
          refine takeVal 8 114 (.bool true) rfl (by kernel_rfl) (by kernel_rfl) (by kernel_rfl) rfl (by rfl) (fun _ _ _ h => h) hHeld (fun _ hw' => rfl) ?_
          simp only [List.setIfInBounds_toArray, List.set_cons_zero, List.set_cons_succ]
          refine takeVal 9 115 (.pointer (some ⟨b14, 0, none⟩)) rfl (by kernel_rfl) (by kernel_rfl) (by kernel_rfl) rfl (by rfl) (fun _ _ _ h => h) hHeld (fun _ hw' => by clear hQ0 hQ2 hQ3 hP0 hP2 hP3; go_simp) ?_
          simp only [List.setIfInBounds_toArray, List.set_cons_zero, List.set_cons_succ]
          refine takeVal 10 116 (.slice (some ⟨gx, 0, none⟩) n xc) rfl (by kernel_rfl) (by kernel_rfl) (by kernel_rfl) rfl (by rfl) (fun _ _ _ h => h) hHeld (fun _ hw' => by have hc := hP0 _ hw'; clear hQ0 hQ2 hQ3 hP0 hP2 hP3; go_simp) ?_
          simp only [List.setIfInBounds_toArray, List.set_cons_zero, List.set_cons_succ]
          refine takeVal 11 117 (.pointer (some ⟨b8, 0, none⟩)) rfl (by kernel_rfl) (by kernel_rfl) (by kernel_rfl) rfl (by rfl) (fun _ _ _ h => h) hHeld (fun _ hw' => by clear hQ0 hQ2 hQ3 hP0 hP2 hP3; go_simp) ?_
          simp only [List.setIfInBounds_toArray, List.set_cons_zero, List.set_cons_succ]
          refine takeVal 12 118 (.slice (some ⟨gw, 0, none⟩) n wc) rfl (by kernel_rfl) (by kernel_rfl) (by kernel_rfl) rfl (by rfl) (fun _ _ _ h => h) hHeld (fun _ hw' => by have hc := hQ0 _ hw'; clear hQ0 hQ2 hQ3 hP0 hP2 hP3; go_simp) ?_
          simp only [List.setIfInBounds_toArray, List.set_cons_zero, List.set_cons_succ]
          refine step1 13 (by kernel_rfl) ?_
          refine stCall 13 119 17 #[.slice (some ⟨gx, 0, none⟩) n xc, .slice (some ⟨gw, 0, none⟩) n wc] _ rfl rfl (by rfl) (by clear hQ0 hQ2 hQ3 hP0 hP2 hP3; go_simp) (HSm.out _ gx gw xc wc (HWx.out.keep hHeld (fun e => e)) (HWt.out.keep hHeld (fun e => e))) ?_
          rintro e w20 ⟨rfl, hcc⟩
          refine ⟨_, rfl, hHeld.tr hcc, ?_⟩
          replace hHeld := hHeld.tr hcc
          simp only [List.setIfInBounds_toArray, List.set_cons_zero, List.set_cons_succ]
          refine takeVal 14 120 (.bool true) rfl (by kernel_rfl) (by kernel_rfl) (by kernel_rfl) rfl (by rfl) (fun _ _ _ h => h) hHeld (fun _ hw' => rfl) ?_
          simp only [List.setIfInBounds_toArray, List.set_cons_zero, List.set_cons_succ]
          refine takeVal 15 121 (.bool true) rfl (by kernel_rfl) (by kernel_rfl) (by kernel_rfl) rfl (by rfl) (fun _ _ _ h => h) hHeld (fun _ hw' => rfl) ?_
          simp only [List.setIfInBounds_toArray, List.set_cons_zero, List.set_cons_succ]
          refine takeVal 16 122 (.pointer (some ⟨b14, 2, none⟩)) rfl (by kernel_rfl) (by kernel_rfl) (by kernel_rfl) rfl (by rfl) (fun _ _ _ h => h) hHeld (fun _ hw' => by clear hQ0 hQ2 hQ3 hP0 hP2 hP3; go_simp) ?_
          simp only [List.setIfInBounds_toArray, List.set_cons_zero, List.set_cons_succ]
          refine takeVal 17 123 (.slice c2 il t2) rfl (by kernel_rfl) (by kernel_rfl) (by kernel_rfl) rfl (by rfl) (fun _ _ _ h => h) hHeld (fun _ hw' => by have hc := hP2 _ hw'; clear hQ0 hQ2 hQ3 hP0 hP2 hP3; go_simp) ?_
          simp only [List.setIfInBounds_toArray, List.set_cons_zero, List.set_cons_succ]
          refine takeVal 18 124 (.pointer (some ⟨b8, 2, none⟩)) rfl (by kernel_rfl) (by kernel_rfl) (by kernel_rfl) rfl (by rfl) (fun _ _ _ h => h) hHeld (fun _ hw' => by clear hQ0 hQ2 hQ3 hP0 hP2 hP3; go_simp) ?_
          simp only [List.setIfInBounds_toArray, List.set_cons_zero, List.set_cons_succ]
          refine takeVal 19 125 (.slice a2 il s2) rfl (by kernel_rfl) (by kernel_rfl) (by kernel_rfl) rfl (by rfl) (fun _ _ _ h => h) hHeld (fun _ hw' => by have hc := hQ2 _ hw'; clear hQ0 hQ2 hQ3 hP0 hP2 hP3; go_simp) ?_
          simp only [List.setIfInBounds_toArray, List.set_cons_zero, List.set_cons_succ]
          refine step1 20 (by kernel_rfl) ?_
          refine stCall 20 126 28 #[.slice c2 il t2, .slice a2 il s2] _ rfl rfl (by rfl) (by clear hQ0 hQ2 hQ3 hP0 hP2 hP3; go_simp) (HSi2.out _ hHeld) ?_
          rintro e w21 ⟨rfl, hcc⟩
          refine ⟨_, rfl, hHeld.tr hcc, ?_⟩
          replace hHeld := hHeld.tr hcc
          simp only [List.setIfInBounds_toArray, List.set_cons_zero, List.set_cons_succ]
          refine takeVal 21 127 (.bool true) rfl (by kernel_rfl) (by kernel_rfl) (by kernel_rfl) rfl (by rfl) (fun _ _ _ h => h) hHeld (fun _ hw' => rfl) ?_
          simp only [List.setIfInBounds_toArray, List.set_cons_zero, List.set_cons_succ]
          refine takeVal 22 128 (.bool true) rfl (by kernel_rfl) (by kernel_rfl) (by kernel_rfl) rfl (by rfl) (fun _ _ _ h => h) hHeld (fun _ hw' => rfl) ?_
          simp only [List.setIfInBounds_toArray, List.set_cons_zero, List.set_cons_succ]
          refine takeVal 23 129 (.pointer (some ⟨b14, 3, none⟩)) rfl (by kernel_rfl) (by kernel_rfl) (by kernel_rfl) rfl (by rfl) (fun _ _ _ h => h) hHeld (fun _ hw' => by clear hQ0 hQ2 hQ3 hP0 hP2 hP3; go_simp) ?_
          simp only [List.setIfInBounds_toArray, List.set_cons_zero, List.set_cons_succ]
          refine takeVal 24 130 (.slice c3 bl t3) rfl (by kernel_rfl) (by kernel_rfl) (by kernel_rfl) rfl (by rfl) (fun _ _ _ h => h) hHeld (fun _ hw' => by have hc := hP3 _ hw'; clear hQ0 hQ2 hQ3 hP0 hP2 hP3; go_simp) ?_
          simp only [List.setIfInBounds_toArray, List.set_cons_zero, List.set_cons_succ]
          refine takeVal 25 131 (.pointer (some ⟨b8, 3, none⟩)) rfl (by kernel_rfl) (by kernel_rfl) (by kernel_rfl) rfl (by rfl) (fun _ _ _ h => h) hHeld (fun _ hw' => by clear hQ0 hQ2 hQ3 hP0 hP2 hP3; go_simp) ?_
          simp only [List.setIfInBounds_toArray, List.set_cons_zero, List.set_cons_succ]
          refine takeVal 26 132 (.slice a3 bl s3) rfl (by kernel_rfl) (by kernel_rfl) (by kernel_rfl) rfl (by rfl) (fun _ _ _ h => h) hHeld (fun _ hw' => by have hc := hQ3 _ hw'; clear hQ0 hQ2 hQ3 hP0 hP2 hP3; go_simp) ?_
          simp only [List.setIfInBounds_toArray, List.set_cons_zero, List.set_cons_succ]
          refine step1 27 (by kernel_rfl) ?_
          refine stCall 27 133 28 #[.slice c3 bl t3, .slice a3 bl s3] _ rfl rfl (by rfl) (by clear hQ0 hQ2 hQ3 hP0 hP2 hP3; go_simp) (HSi3.out _ hHeld) ?_
          rintro e w22 ⟨rfl, hcc⟩
          refine ⟨_, rfl, hHeld.tr hcc, ?_⟩
          replace hHeld := hHeld.tr hcc
          simp only [List.setIfInBounds_toArray, List.set_cons_zero, List.set_cons_succ]
          refine takeVal 28 134 (.bool true) rfl (by kernel_rfl) (by kernel_rfl) (by kernel_rfl) rfl (by rfl) (fun _ _ _ h => h) hHeld (fun _ hw' => rfl) ?_
          simp only [List.setIfInBounds_toArray, List.set_cons_zero, List.set_cons_succ]
          refine takeVal 29 135 (.bool true) rfl (by kernel_rfl) (by kernel_rfl) (by kernel_rfl) rfl (by rfl) (fun _ _ _ h => h) hHeld (fun _ hw' => rfl) ?_
          simp only [List.setIfInBounds_toArray, List.set_cons_zero, List.set_cons_succ]
          refine takeVal 30 4 (.bool true) rfl (by kernel_rfl) (by kernel_rfl) (by kernel_rfl) rfl (by rfl) (fun _ _ _ h => h) hHeld (fun _ hw' => rfl) ?_
          simp only [List.setIfInBounds_toArray, List.set_cons_zero, List.set_cons_succ]
          refine wpAnyH_done (by kernel_rfl) ?_ _
          refine NoPanic.normal ?_
          have HCf : Hid (Chg w w22 No) := hid (HC17.out.tr hHeld)
          clear hHeld hQ0 hQ2 hQ3 hP0 hP2 hP3
          go_wp2_with fail
          go_ret
          exact ⟨rfl, HCf.out.below⟩
      · go_upto_region 16 with (first
          | (go_at_call 10; go_must (refine hR2.mono ?_; rintro e w13 ⟨y0, y1, y2, y3, Jc, kc, rfl, hone2, hd13, hf13, hl13, hc13⟩))
          | (refine store_R rfl 29 _ _ rfl w13.heap.size #[y0, y1, y2, y3] rfl rfl 29 _ (heap_alloc_new _ _) szRep rfl hone2 ?_; intro w14 hw14)
          | fail)
        have h1314 : Chg w13 w14 No := (Chg.alloc w13 _ No).trans (kt_new hw14) (fun _ _ e => e) (fun j hj e => by omega)
        have HCr14 : Hid (Chg wr w14 (fun k => k = p2 ∨ k = g2)) := hid (hc13.trans h1314 (fun _ _ e => e) (fun _ _ e => e.elim))
        have HF14 : Hid (First w6 w14 im #[v0, v1, v2, v3] Jd kd) := hid ((HFr9.out.keep HDj.out hc13 HLt.out.2.2.1 HLt.out.2.2.2).call h1314)
        have HDd14 : Hid (DK w14 p g Jd kd false false 0) := hid (HDdr.out.keep HCr14.out (by have := HPG.out; omega) (by have := HPG.out; omega))
        obtain ⟨hJJ, hkk⟩ : Jc = Jd ∧ kc = kd := by
          rcases hf13 with ⟨h1, _, _, h4, h5⟩ | ⟨M, h1, h2, h3, _⟩
          · rcases HF14.out with ⟨_, _, _, k4, k5⟩ | ⟨M', k1, _⟩
            · exact ⟨h4.trans k4.symm, h5.trans k5.symm⟩
            · exact absurd k1 (h1 M')
          · rcases HF14.out with ⟨k1, _⟩ | ⟨M', k1, k2, k3, _⟩
            · exact absurd h1 (k1 M)
            · obtain rfl : M = M' := k1.one h1
              exact ⟨h2.trans k2.symm, h3.trans k3.symm⟩
        subst hJJ hkk
        have HDc14 : Hid (DK w14 p2 g2 Jc kc false false 0) := hid (hd13.call h1314)
        have HF13 : Hid (((∀ M, ¬ II im M) ∧ gE ≠ 0) ∨ ∃ M, II im M ∧ gE = 0 ∧ RepC wr w14 im M j #[y0, y1, y2, y3]) := hid (by
          rcases hf13 with ⟨h1, h2, _⟩ | ⟨M, h1, _, _, h4⟩
          · exact .inl ⟨h1, h2⟩
          · exact .inr ⟨M, h1, by rw [HGE.out]; exact ii_zero h1, h4.call h1314⟩)
        have HG14 := hid hw14.here
        have HG814 := hid (HCr14.out.keep HG9.out (by have := HB8.out; omega))
        obtain ⟨b14, hb14⟩ : ∃ y, y = w13.heap.size := ⟨_, rfl⟩
        rw [← hb14] at HG14 ⊢
        have HC14 : Hid (Chg w w14 No) := hid (HCw.out.trans HCr14.out (fun _ _ e => e) (fun j hj e => by have := HPG.out; omega))
        have HIm : Hid (∀ (W : World) (pp gg : Nat), DK W pp gg Jc kc false false 0 → Calls Tryz.prog 18 #[.pointer (some ⟨pp, 0, none⟩)] W fun e w' => ∃ q, e = .returned (.slice (some ⟨q, 0, none⟩) n n) ∧ WtAt w' q Jc ∧ Chg W w' No) := hid (fun W pp gg h => by
          have := dk_image h
          rw [HL8.out] at this
          refine this.mono ?_
          rintro e w' ⟨q, h1, _, h3, h4⟩
          exact ⟨q, h1, h3, h4⟩)
        have HSm : Hid (∀ (W : World) (x y xc yc : Nat), WtAt W x Jc → WtAt W y Jc → Calls Tryz.prog 17 #[.slice (some ⟨x, 0, none⟩) n xc, .slice (some ⟨y, 0, none⟩) n yc] W fun e w' => e = .returned (.bool true) ∧ Chg W w' No) := hid (fun W x y xc yc h1 h2 => by
          have := secs_same Jc (some ⟨x, 0, none⟩) (some ⟨y, 0, none⟩) xc yc W (by rw [HL8.out]; omega) (ImgAt.of_wt h1) (ImgAt.of_wt h2)
          rw [HL8.out] at this
          exact this)
        have hI1 := HIm.out w14 p2 g2 HDc14.out
        clear hR2 hd13 hf13 hl13 hc13 h1314 hw14 hb14 hone2
        go_upto_region 18 with (first
          | (go_at_call 18; go_must (first
              | (refine (HIm.out w15 p g (HDd14.out.call hc15)).mono ?_; rintro e w16 ⟨q2, rfl, hq2, hc16⟩; have hS16 := HSm.out w16 q1 q2 n n (hq1.keep hc16 (fun e => e)) hq2)
              | (refine hI1.mono ?_; rintro e w15 ⟨q1, rfl, hq1, hc15⟩)))
          | (go_at_call 17; go_must (refine hS16.mono ?_; rintro e w17 ⟨rfl, hc17⟩; have hWc := dk_writes (HDc14.out.call ((hc15.tr hc16).tr hc17)); have hWd := dk_writes (HDd14.out.call ((hc15.tr hc16).tr hc17))))
          | (go_at_call 15; go_must (first
              | (refine hWd.mono ?_; rintro e w18 ⟨rfl, hw18⟩; obtain rfl : w17 = w18 := hw18.symm)
              | (refine hWc.mono ?_; rintro e w18 ⟨rfl, hw18⟩; obtain rfl : w17 = w18 := hw18.symm)))
          | fail)
        have H1417 := hid ((hc15.tr hc16).tr hc17)
        have HC17 := hid (HC14.out.tr H1417.out)
        have HDd17 := hid (HDd14.out.call H1417.out)
        have HF17 := hid (HF14.out.call H1417.out)
        have HG17 := hid (H1417.out.keep HG14.out (fun e => e))
        have HG817 := hid (H1417.out.keep HG814.out (fun e => e))
        clear hc15 hc16 hc17 hq1 hq2 hS16 hWc hWd hI1
        rcases HF13.out with ⟨hbad, hg0⟩ | ⟨M, hii, hg0, hrep⟩
        · have HG0 := hid hg0
          clear hbad hg0
          refine wp_region_noPanic ?_
          refine wp_region_held_drew (S := fun w' => Chg w17 w' No) (by kernel_rfl) (Chg.refl _ _).drew (fun hHeld => ?_)
          refine takeVal 0 106 (.int .i64 gE) rfl (by kernel_rfl) (by kernel_rfl) (by kernel_rfl) rfl (by rfl) (fun _ _ _ h => h) hHeld (fun _ hw' => rfl) ?_
          simp only [List.setIfInBounds_toArray, List.set_cons_zero, List.set_cons_succ]
          refine takeVal 1 107 (.bool true) rfl (by kernel_rfl) (by kernel_rfl) (by kernel_rfl) rfl (by rfl) (fun _ _ _ h => h) hHeld (fun _ hw' => by go_simp; first | exact HG0.out | exact bne_iff_ne.2 HG0.out | simp [HG0.out]) ?_
          simp only [List.setIfInBounds_toArray, List.set_cons_zero, List.set_cons_succ]
          refine takeVal 2 108 (.bool true) rfl (by kernel_rfl) (by kernel_rfl) (by kernel_rfl) rfl (by rfl) (fun _ _ _ h => h) hHeld (fun _ hw' => rfl) ?_
          simp only [List.setIfInBounds_toArray, List.set_cons_zero, List.set_cons_succ]
          refine takeNot 3 109 rfl (by kernel_rfl) (by kernel_rfl) (by kernel_rfl) rfl (by rfl) (fun _ _ _ h => h) hHeld ?_
          simp only [List.setIfInBounds_toArray, List.set_cons_zero, List.set_cons_succ]
          refine takeNot 4 110 rfl (by kernel_rfl) (by kernel_rfl) (by kernel_rfl) rfl (by rfl) (fun _ _ _ h => h) hHeld ?_
          simp only [List.setIfInBounds_toArray, List.set_cons_zero, List.set_cons_succ]
          refine takeNot 5 111 rfl (by kernel_rfl) (by kernel_rfl) (by kernel_rfl) rfl (by rfl) (fun _ _ _ h => h) hHeld ?_
          simp only [List.setIfInBounds_toArray, List.set_cons_zero, List.set_cons_succ]
          refine takeNot 6 112 rfl (by kernel_rfl) (by kernel_rfl) (by kernel_rfl) rfl (by rfl) (fun _ _ _ h => h) hHeld ?_
          simp only [List.setIfInBounds_toArray, List.set_cons_zero, List.set_cons_succ]
          refine takeNot 7 113 rfl (by kernel_rfl) (by kernel_rfl) (by kernel_rfl) rfl (by rfl) (fun _ _ _ h => h) hHeld ?_
          simp only [List.setIfInBounds_toArray, List.set_cons_zero, List.set_cons_succ]
          refine takeNot 8 114 rfl (by kernel_rfl) (by kernel_rfl) (by kernel_rfl) rfl (by rfl) (fun _ _ _ h => h) hHeld ?_
          simp only [List.setIfInBounds_toArray, List.set_cons_zero, List.set_cons_succ]
          refine takeNot 9 115 rfl (by kernel_rfl) (by kernel_rfl) (by kernel_rfl) rfl (by rfl) (fun _ _ _ h => h) hHeld ?_
          simp only [List.setIfInBounds_toArray, List.set_cons_zero, List.set_cons_succ]
          refine takeNot 10 116 rfl (by kernel_rfl) (by kernel_rfl) (by kernel_rfl) rfl (by rfl) (fun _ _ _ h => h) hHeld ?_
          simp only [List.setIfInBounds_toArray, List.set_cons_zero, List.set_cons_succ]
          refine takeNot 11 117 rfl (by kernel_rfl) (by kernel_rfl) (by kernel_rfl) rfl (by rfl) (fun _ _ _ h => h) hHeld ?_
          simp only [List.setIfInBounds_toArray, List.set_cons_zero, List.set_cons_succ]
          refine takeNot 12 118 rfl (by kernel_rfl) (by kernel_rfl) (by kernel_rfl) rfl (by rfl) (fun _ _ _ h => h) hHeld ?_
          simp only [List.setIfInBounds_toArray, List.set_cons_zero, List.set_cons_succ]
          refine takeNot 13 119 rfl (by kernel_rfl) (by kernel_rfl) (by kernel_rfl) rfl (by rfl) (fun _ _ _ h => h) hHeld ?_
          simp only [List.setIfInBounds_toArray, List.set_cons_zero, List.set_cons_succ]
          refine takeNot 14 120 rfl (by kernel_rfl) (by kernel_rfl) (by kernel_rfl) rfl (by rfl) (fun _ _ _ h => h) hHeld ?_
          simp only [List.setIfInBounds_toArray, List.set_cons_zero, List.set_cons_succ]
          refine takeNot 15 121 rfl (by kernel_rfl) (by kernel_rfl) (by kernel_rfl) rfl (by rfl) (fun _ _ _ h => h) hHeld ?_
          simp only [List.setIfInBounds_toArray, List.set_cons_zero, List.set_cons_succ]
          refine takeNot 16 122 rfl (by kernel_rfl) (by kernel_rfl) (by kernel_rfl) rfl (by rfl) (fun _ _ _ h => h) hHeld ?_
          simp only [List.setIfInBounds_toArray, List.set_cons_zero, List.set_cons_succ]
          refine takeNot 17 123 rfl (by kernel_rfl) (by kernel_rfl) (by kernel_rfl) rfl (by rfl) (fun _ _ _ h => h) hHeld ?_
          simp only [List.setIfInBounds_toArray, List.set_cons_zero, List.set_cons_succ]
          refine takeNot 18 124 rfl (by kernel_rfl) (by kernel_rfl) (by kernel_rfl) rfl (by rfl) (fun _ _ _ h => h) hHeld ?_
          simp only [List.setIfInBounds_toArray, List.set_cons_zero, List.set_cons_succ]
          refine takeNot 19 125 rfl (by kernel_rfl) (by kernel_rfl) (by kernel_rfl) rfl (by rfl) (fun _ _ _ h => h) hHeld ?_
          simp only [List.setIfInBounds_toArray, List.set_cons_zero, List.set_cons_succ]
          refine takeNot 20 126 rfl (by kernel_rfl) (by kernel_rfl) (by kernel_rfl) rfl (by rfl) (fun _ _ _ h => h) hHeld ?_
          simp only [List.setIfInBounds_toArray, List.set_cons_zero, List.set_cons_succ]
          refine takeNot 21 127 rfl (by kernel_rfl) (by kernel_rfl) (by kernel_rfl) rfl (by rfl) (fun _ _ _ h => h) hHeld ?_
          simp only [List.setIfInBounds_toArray, List.set_cons_zero, List.set_cons_succ]
          refine takeNot 22 128 rfl (by kernel_rfl) (by kernel_rfl) (by kernel_rfl) rfl (by rfl) (fun _ _ _ h => h) hHeld ?_
          simp only [List.setIfInBounds_toArray, List.set_cons_zero, List.set_cons_succ]
          refine takeNot 23 129 rfl (by kernel_rfl) (by kernel_rfl) (by kernel_rfl) rfl (by rfl) (fun _ _ _ h => h) hHeld ?_
          simp only [List.setIfInBounds_toArray, List.set_cons_zero, List.set_cons_succ]
          refine takeNot 24 130 rfl (by kernel_rfl) (by kernel_rfl) (by kernel_rfl) rfl (by rfl) (fun _ _ _ h => h) hHeld ?_
          simp only [List.setIfInBounds_toArray, List.set_cons_zero, List.set_cons_succ]
          refine takeNot 25 131 rfl (by kernel_rfl) (by kernel_rfl) (by kernel_rfl) rfl (by rfl) (fun _ _ _ h => h) hHeld ?_
          simp only [List.setIfInBounds_toArray, List.set_cons_zero, List.set_cons_succ]
          refine takeNot 26 132 rfl (by kernel_rfl) (by kernel_rfl) (by kernel_rfl) rfl (by rfl) (fun _ _ _ h => h) hHeld ?_
          simp only [List.setIfInBounds_toArray, List.set_cons_zero, List.set_cons_succ]
          refine takeNot 27 133 rfl (by kernel_rfl) (by kernel_rfl) (by kernel_rfl) rfl (by rfl) (fun _ _ _ h => h) hHeld ?_
          simp only [List.setIfInBounds_toArray, List.set_cons_zero, List.set_cons_succ]
          refine takeNot 28 134 rfl (by kernel_rfl) (by kernel_rfl) (by kernel_rfl) rfl (by rfl) (fun _ _ _ h => h) hHeld ?_
          simp only [List.setIfInBounds_toArray, List.set_cons_zero, List.set_cons_succ]
          refine takeVal 29 135 (.bool true) rfl (by kernel_rfl) (by kernel_rfl) (by kernel_rfl) rfl (by rfl) (fun _ _ _ h => h) hHeld (fun _ hw' => rfl) ?_
          simp only [List.setIfInBounds_toArray, List.set_cons_zero, List.set_cons_succ]
          refine takeVal 30 4 (.bool true) rfl (by kernel_rfl) (by kernel_rfl) (by kernel_rfl) rfl (by rfl) (fun _ _ _ h => h) hHeld (fun _ hw' => rfl) ?_
          simp only [List.setIfInBounds_toArray, List.set_cons_zero, List.set_cons_succ]
          refine wpAnyH_done (by kernel_rfl) ?_ _
          refine NoPanic.normal ?_
          have HCf : Hid (Chg w w17.drew No) := hid (HC17.out.tr hHeld)
          clear hHeld
          go_wp2_with fail
          go_ret
          exact ⟨rfl, HCf.out.below⟩
        · subst hg0
          have hF := HF17.out
          obtain ⟨_, hJ, _, hrep0⟩ : ∃ M', Jc = (lookL M im).wt ∧ M' = M ∧ RepC w6 w17 im M 0 #[v0, v1, v2, v3] := by
            rcases hF with ⟨k1, _⟩ | ⟨M', k1, k2, _, k4⟩
            · exact absurd hii (k1 M)
            · obtain rfl : M = M' := k1.one hii
              exact ⟨M, k2, rfl, k4⟩
          have hrep17 := hrep.call H1417.out
          obtain ⟨gw, wc, s1, s2, s3, a1, a2, a3, er, _, hwt, _, hl2, hl3, _⟩ := hrep0
          obtain ⟨gx, xc, t1, t2, t3, c1, c2, c3, ey, _, hwx, _, hm2, hm3, _⟩ := hrep17
          rw [← hJ] at hwt hwx
          have HWt := hid hwt
          have HWx := hid hwx
          have HL2 := hid hl2
          have HL3 := hid hl3
          have HM2 := hid hm2
          have HM3 := hid hm3
          obtain ⟨Il, hIl⟩ : ∃ y, y = inodesI M (lookL M im) := ⟨_, rfl⟩
          obtain ⟨Bl, hBl⟩ : ∃ y, y = blocksI im (lookL M im) := ⟨_, rfl⟩
          have HIb : Hid (Il.length ≤ 20000 ∧ Bl.length ≤ 20000) := hid (by
            rw [hIl, hBl]
            have := keysL_len (M + 1) fun x => ((lookL M im).tk x).isSome
            have := keysL_len im.length (lookL M im).cl
            have := hii.ml
            have := hii.n2
            unfold inodesI blocksI
            omega)
          rw [← hIl] at er ey HL2 HM2
          rw [← hBl] at er ey HL3 HM3
          rw [← HN.out] at er ey
          rw [er] at HG817
          rw [ey] at HG17
          generalize kW M im - 0 = k1 at *
          generalize kW M im - j = k2 at *
          obtain ⟨il, hil⟩ : ∃ y, y = Il.length := ⟨_, rfl⟩
          obtain ⟨bl, hbl⟩ : ∃ y, y = Bl.length := ⟨_, rfl⟩
          have HiL := hid hil
          have HbL := hid hbl
          rw [← hil, ← hbl] at HG817 HG17
          have HQ : Hid (∀ (W' : World) (_hW : Chg w17 W' No), W'.cell? ⟨b8, 0, none⟩ = some (.slice (some ⟨gw, 0, none⟩) n wc) ∧ W'.cell? ⟨b8, 2, none⟩ = some (.slice a2 il s2) ∧ W'.cell? ⟨b8, 3, none⟩ = some (.slice a3 bl s3)) := hid (fun W' hW => by
            have h0 := hW.keep HG817.out (fun e => e)
            exact ⟨(cell_of_row _ _ _ _ _ _ h0).trans rfl, (cell_of_row _ _ _ _ _ _ h0).trans rfl, (cell_of_row _ _ _ _ _ _ h0).trans rfl⟩)
          have HP : Hid (∀ (W' : World) (_hW : Chg w17 W' No), W'.cell? ⟨b14, 0, none⟩ = some (.slice (some ⟨gx, 0, none⟩) n xc) ∧ W'.cell? ⟨b14, 2, none⟩ = some (.slice c2 il t2) ∧ W'.cell? ⟨b14, 3, none⟩ = some (.slice c3 bl t3)) := hid (fun W' hW => by
            have h0 := hW.keep HG17.out (fun e => e)
            exact ⟨(cell_of_row _ _ _ _ _ _ h0).trans rfl, (cell_of_row _ _ _ _ _ _ h0).trans rfl, (cell_of_row _ _ _ _ _ _ h0).trans rfl⟩)
          have hQ0 := fun W' (hW : Chg w17 W' No) => (HQ.out W' hW).1
          have hQ2 := fun W' (hW : Chg w17 W' No) => (HQ.out W' hW).2.1
          have hQ3 := fun W' (hW : Chg w17 W' No) => (HQ.out W' hW).2.2
          have hP0 := fun W' (hW : Chg w17 W' No) => (HP.out W' hW).1
          have hP2 := fun W' (hW : Chg w17 W' No) => (HP.out W' hW).2.1
          have hP3 := fun W' (hW : Chg w17 W' No) => (HP.out W' hW).2.2
          have HSi2 : Hid (∀ (W' : World) (_hW : Chg w17 W' No), Calls Tryz.prog 28 #[.slice c2 il t2, .slice a2 il s2] W' fun e w' => e = .returned (.bool true) ∧ Chg W' w' No) := hid (fun W' hW => by
            have hq := ints_like Il c2 a2 t2 s2 W' HIb.out.1 ((LatO.of HM2.out).call hW) ((LatO.of HL2.out).call hW)
            rw [← HiL.out] at hq
            exact hq)
          have HSi3 : Hid (∀ (W' : World) (_hW : Chg w17 W' No), Calls Tryz.prog 28 #[.slice c3 bl t3, .slice a3 bl s3] W' fun e w' => e = .returned (.bool true) ∧ Chg W' w' No) := hid (fun W' hW => by
            have hq := ints_like Bl c3 a3 t3 s3 W' HIb.out.2 ((LatO.of HM3.out).call hW) ((LatO.of HL3.out).call hW)
            rw [← HbL.out] at hq
            exact hq)
          clear er ey hIl hBl hil hbl hwt hwx hl2 hl3 hm2 hm3 hJ hF hrep
          refine wp_region_noPanic ?_
          refine wp_region_held_drew (S := fun w' => Chg w17 w' No) (by kernel_rfl) (Chg.refl _ _).drew (fun hHeld => ?_)
          refine takeVal 0 106 (.int .i64 0) rfl (by kernel_rfl) (by kernel_rfl) (by kernel_rfl) rfl (by rfl) (fun _ _ _ h => h) hHeld (fun _ hw' => rfl) ?_
          simp only [List.setIfInBounds_toArray, List.set_cons_zero, List.set_cons_succ]
          refine takeVal 1 107 (.bool false) rfl (by kernel_rfl) (by kernel_rfl) (by kernel_rfl) rfl (by rfl) (fun _ _ _ h => h) hHeld (fun _ hw' => by clear hQ0 hQ2 hQ3 hP0 hP2 hP3; go_simp) ?_
          simp only [List.setIfInBounds_toArray, List.set_cons_zero, List.set_cons_succ]
          refine takeVal 2 108 (.bool false) rfl (by kernel_rfl) (by kernel_rfl) (by kernel_rfl) rfl (by rfl) (fun _ _ _ h => h) hHeld (fun _ hw' => rfl) ?_
          simp only [List.setIfInBounds_toArray, List.set_cons_zero, List.set_cons_succ]
          refine takeVal 3 109 (.pointer (some ⟨b8, 0, none⟩)) rfl (by kernel_rfl) (by kernel_rfl) (by kernel_rfl) rfl (by rfl) (fun _ _ _ h => h) hHeld (fun _ hw' => by clear hQ0 hQ2 hQ3 hP0 hP2 hP3; go_simp) ?_
          simp only [List.setIfInBounds_toArray, List.set_cons_zero, List.set_cons_succ]
          refine takeVal 4 110 (.slice (some ⟨gw, 0, none⟩) n wc) rfl (by kernel_rfl) (by kernel_rfl) (by kernel_rfl) rfl (by rfl) (fun _ _ _ h => h) hHeld (fun _ hw' => by have hc := hQ0 _ hw'; clear hQ0 hQ2 hQ3 hP0 hP2 hP3; go_simp) ?_
          simp only [List.setIfInBounds_toArray, List.set_cons_zero, List.set_cons_succ]
          refine takeVal 5 111 (.pointer (some ⟨p, 0, none⟩)) rfl (by kernel_rfl) (by kernel_rfl) (by kernel_rfl) rfl (by rfl) (fun _ _ _ h => h) hHeld (fun _ hw' => rfl) ?_
          simp only [List.setIfInBounds_toArray, List.set_cons_zero, List.set_cons_succ]
          refine step1 6 (by kernel_rfl) ?_
          refine stCall 6 112 18 #[.pointer (some ⟨p, 0, none⟩)] _ rfl rfl (by rfl) (by clear hQ0 hQ2 hQ3 hP0 hP2 hP3; go_simp) (HIm.out _ p g (HDd17.out.call hHeld)) ?_
          rintro e w18 ⟨q9, rfl, hq9, hcc⟩
          refine ⟨_, rfl, hHeld.tr hcc, ?_⟩
          replace hHeld := hHeld.tr hcc
          simp only [List.setIfInBounds_toArray, List.set_cons_zero, List.set_cons_succ]
          refine step1 7 (by kernel_rfl) ?_
          refine stCall 7 113 17 #[.slice (some ⟨gw, 0, none⟩) n wc, .slice (some ⟨q9, 0, none⟩) n n] _ rfl rfl (by rfl) (by clear hQ0 hQ2 hQ3 hP0 hP2 hP3; go_simp) (HSm.out _ gw q9 wc n (HWt.out.keep hHeld (fun e => e)) hq9) ?_
          rintro e w19 ⟨rfl, hcc⟩
          refine ⟨_, rfl, hHeld.tr hcc, ?_⟩
          replace hHeld := hHeld.tr hcc
          simp only [List.setIfInBounds_toArray, List.set_cons_zero, List.set_cons_succ]
          refine takeVal 8 114 (.bool true) rfl (by kernel_rfl) (by kernel_rfl) (by kernel_rfl) rfl (by rfl) (fun _ _ _ h => h) hHeld (fun _ hw' => rfl) ?_
          simp only [List.setIfInBounds_toArray, List.set_cons_zero, List.set_cons_succ]
          refine takeVal 9 115 (.pointer (some ⟨b14, 0, none⟩)) rfl (by kernel_rfl) (by kernel_rfl) (by kernel_rfl) rfl (by rfl) (fun _ _ _ h => h) hHeld (fun _ hw' => by clear hQ0 hQ2 hQ3 hP0 hP2 hP3; go_simp) ?_
          simp only [List.setIfInBounds_toArray, List.set_cons_zero, List.set_cons_succ]
          refine takeVal 10 116 (.slice (some ⟨gx, 0, none⟩) n xc) rfl (by kernel_rfl) (by kernel_rfl) (by kernel_rfl) rfl (by rfl) (fun _ _ _ h => h) hHeld (fun _ hw' => by have hc := hP0 _ hw'; clear hQ0 hQ2 hQ3 hP0 hP2 hP3; go_simp) ?_
          simp only [List.setIfInBounds_toArray, List.set_cons_zero, List.set_cons_succ]
          refine takeVal 11 117 (.pointer (some ⟨b8, 0, none⟩)) rfl (by kernel_rfl) (by kernel_rfl) (by kernel_rfl) rfl (by rfl) (fun _ _ _ h => h) hHeld (fun _ hw' => by clear hQ0 hQ2 hQ3 hP0 hP2 hP3; go_simp) ?_
          simp only [List.setIfInBounds_toArray, List.set_cons_zero, List.set_cons_succ]
          refine takeVal 12 118 (.slice (some ⟨gw, 0, none⟩) n wc) rfl (by kernel_rfl) (by kernel_rfl) (by kernel_rfl) rfl (by rfl) (fun _ _ _ h => h) hHeld (fun _ hw' => by have hc := hQ0 _ hw'; clear hQ0 hQ2 hQ3 hP0 hP2 hP3; go_simp) ?_
          simp only [List.setIfInBounds_toArray, List.set_cons_zero, List.set_cons_succ]
          refine step1 13 (by kernel_rfl) ?_
          refine stCall 13 119 17 #[.slice (some ⟨gx, 0, none⟩) n xc, .slice (some ⟨gw, 0, none⟩) n wc] _ rfl rfl (by rfl) (by clear hQ0 hQ2 hQ3 hP0 hP2 hP3; go_simp) (HSm.out _ gx gw xc wc (HWx.out.keep hHeld (fun e => e)) (HWt.out.keep hHeld (fun e => e))) ?_
          rintro e w20 ⟨rfl, hcc⟩
          refine ⟨_, rfl, hHeld.tr hcc, ?_⟩
          replace hHeld := hHeld.tr hcc
          simp only [List.setIfInBounds_toArray, List.set_cons_zero, List.set_cons_succ]
          refine takeVal 14 120 (.bool true) rfl (by kernel_rfl) (by kernel_rfl) (by kernel_rfl) rfl (by rfl) (fun _ _ _ h => h) hHeld (fun _ hw' => rfl) ?_
          simp only [List.setIfInBounds_toArray, List.set_cons_zero, List.set_cons_succ]
          refine takeVal 15 121 (.bool true) rfl (by kernel_rfl) (by kernel_rfl) (by kernel_rfl) rfl (by rfl) (fun _ _ _ h => h) hHeld (fun _ hw' => rfl) ?_
          simp only [List.setIfInBounds_toArray, List.set_cons_zero, List.set_cons_succ]
          refine takeVal 16 122 (.pointer (some ⟨b14, 2, none⟩)) rfl (by kernel_rfl) (by kernel_rfl) (by kernel_rfl) rfl (by rfl) (fun _ _ _ h => h) hHeld (fun _ hw' => by clear hQ0 hQ2 hQ3 hP0 hP2 hP3; go_simp) ?_
          simp only [List.setIfInBounds_toArray, List.set_cons_zero, List.set_cons_succ]
          refine takeVal 17 123 (.slice c2 il t2) rfl (by kernel_rfl) (by kernel_rfl) (by kernel_rfl) rfl (by rfl) (fun _ _ _ h => h) hHeld (fun _ hw' => by have hc := hP2 _ hw'; clear hQ0 hQ2 hQ3 hP0 hP2 hP3; go_simp) ?_
          simp only [List.setIfInBounds_toArray, List.set_cons_zero, List.set_cons_succ]
          refine takeVal 18 124 (.pointer (some ⟨b8, 2, none⟩)) rfl (by kernel_rfl) (by kernel_rfl) (by kernel_rfl) rfl (by rfl) (fun _ _ _ h => h) hHeld (fun _ hw' => by clear hQ0 hQ2 hQ3 hP0 hP2 hP3; go_simp) ?_
          simp only [List.setIfInBounds_toArray, List.set_cons_zero, List.set_cons_succ]
          refine takeVal 19 125 (.slice a2 il s2) rfl (by kernel_rfl) (by kernel_rfl) (by kernel_rfl) rfl (by rfl) (fun _ _ _ h => h) hHeld (fun _ hw' => by have hc := hQ2 _ hw'; clear hQ0 hQ2 hQ3 hP0 hP2 hP3; go_simp) ?_
          simp only [List.setIfInBounds_toArray, List.set_cons_zero, List.set_cons_succ]
          refine step1 20 (by kernel_rfl) ?_
          refine stCall 20 126 28 #[.slice c2 il t2, .slice a2 il s2] _ rfl rfl (by rfl) (by clear hQ0 hQ2 hQ3 hP0 hP2 hP3; go_simp) (HSi2.out _ hHeld) ?_
          rintro e w21 ⟨rfl, hcc⟩
          refine ⟨_, rfl, hHeld.tr hcc, ?_⟩
          replace hHeld := hHeld.tr hcc
          simp only [List.setIfInBounds_toArray, List.set_cons_zero, List.set_cons_succ]
          refine takeVal 21 127 (.bool true) rfl (by kernel_rfl) (by kernel_rfl) (by kernel_rfl) rfl (by rfl) (fun _ _ _ h => h) hHeld (fun _ hw' => rfl) ?_
          simp only [List.setIfInBounds_toArray, List.set_cons_zero, List.set_cons_succ]
          refine takeVal 22 128 (.bool true) rfl (by kernel_rfl) (by kernel_rfl) (by kernel_rfl) rfl (by rfl) (fun _ _ _ h => h) hHeld (fun _ hw' => rfl) ?_
          simp only [List.setIfInBounds_toArray, List.set_cons_zero, List.set_cons_succ]
          refine takeVal 23 129 (.pointer (some ⟨b14, 3, none⟩)) rfl (by kernel_rfl) (by kernel_rfl) (by kernel_rfl) rfl (by rfl) (fun _ _ _ h => h) hHeld (fun _ hw' => by clear hQ0 hQ2 hQ3 hP0 hP2 hP3; go_simp) ?_
          simp only [List.setIfInBounds_toArray, List.set_cons_zero, List.set_cons_succ]
          refine takeVal 24 130 (.slice c3 bl t3) rfl (by kernel_rfl) (by kernel_rfl) (by kernel_rfl) rfl (by rfl) (fun _ _ _ h => h) hHeld (fun _ hw' => by have hc := hP3 _ hw'; clear hQ0 hQ2 hQ3 hP0 hP2 hP3; go_simp) ?_
          simp only [List.setIfInBounds_toArray, List.set_cons_zero, List.set_cons_succ]
          refine takeVal 25 131 (.pointer (some ⟨b8, 3, none⟩)) rfl (by kernel_rfl) (by kernel_rfl) (by kernel_rfl) rfl (by rfl) (fun _ _ _ h => h) hHeld (fun _ hw' => by clear hQ0 hQ2 hQ3 hP0 hP2 hP3; go_simp) ?_
          simp only [List.setIfInBounds_toArray, List.set_cons_zero, List.set_cons_succ]
          refine takeVal 26 132 (.slice a3 bl s3) rfl (by kernel_rfl) (by kernel_rfl) (by kernel_rfl) rfl (by rfl) (fun _ _ _ h => h) hHeld (fun _ hw' => by have hc := hQ3 _ hw'; clear hQ0 hQ2 hQ3 hP0 hP2 hP3; go_simp) ?_
          simp only [List.setIfInBounds_toArray, List.set_cons_zero, List.set_cons_succ]
          refine step1 27 (by kernel_rfl) ?_
          refine stCall 27 133 28 #[.slice c3 bl t3, .slice a3 bl s3] _ rfl rfl (by rfl) (by clear hQ0 hQ2 hQ3 hP0 hP2 hP3; go_simp) (HSi3.out _ hHeld) ?_
          rintro e w22 ⟨rfl, hcc⟩
          refine ⟨_, rfl, hHeld.tr hcc, ?_⟩
          replace hHeld := hHeld.tr hcc
          simp only [List.setIfInBounds_toArray, List.set_cons_zero, List.set_cons_succ]
          refine takeVal 28 134 (.bool true) rfl (by kernel_rfl) (by kernel_rfl) (by kernel_rfl) rfl (by rfl) (fun _ _ _ h => h) hHeld (fun _ hw' => rfl) ?_
          simp only [List.setIfInBounds_toArray, List.set_cons_zero, List.set_cons_succ]
          refine takeVal 29 135 (.bool true) rfl (by kernel_rfl) (by kernel_rfl) (by kernel_rfl) rfl (by rfl) (fun _ _ _ h => h) hHeld (fun _ hw' => rfl) ?_
          simp only [List.setIfInBounds_toArray, List.set_cons_zero, List.set_cons_succ]
          refine takeVal 30 4 (.bool true) rfl (by kernel_rfl) (by kernel_rfl) (by kernel_rfl) rfl (by rfl) (fun _ _ _ h => h) hHeld (fun _ hw' => rfl) ?_
          simp only [List.setIfInBounds_toArray, List.set_cons_zero, List.set_cons_succ]
          refine wpAnyH_done (by kernel_rfl) ?_ _
          refine NoPanic.normal ?_
          have HCf : Hid (Chg w w22 No) := hid (HC17.out.tr hHeld)
          clear hHeld hQ0 hQ2 hQ3 hP0 hP2 hP3
          go_wp2_with fail
          go_ret
          exact ⟨rfl, HCf.out.below⟩
end Go.Proofs.YtboammbcoleicaaGreat
