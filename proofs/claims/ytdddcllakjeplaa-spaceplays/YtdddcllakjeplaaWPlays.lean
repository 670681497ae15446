/-
  SpacePlays returns true: the walk.
-/
import Derived.Test.YtdddcllakjeplaaPQ
namespace Go.Proofs.Ytdddcllakjeplaa
open Go.RowKit

theorem cells4q {w : World} {g : Nat} {v0 v1 v2 v3 : Value} {t : TypeId} (h : w.heap[g]? = some (.cells #[v0, v1, v2, v3] t (0, 0))) : w.cell? ⟨g, 0, none⟩ = some v0 ∧ w.cell? ⟨g, 1, none⟩ = some v1 ∧ w.cell? ⟨g, 2, none⟩ = some v2 ∧ w.cell? ⟨g, 3, none⟩ = some v3 := ⟨(cell_of_row _ _ _ _ _ _ h).trans rfl, (cell_of_row _ _ _ _ _ _ h).trans rfl, (cell_of_row _ _ _ _ _ _ h).trans rfl, (cell_of_row _ _ _ _ _ _ h).trans rfl⟩
theorem room_anyV {lo hi p : Nat} {s : SS} (w : World) (h : IsS w lo hi p s) : Calls Try.prog 13 #[.pointer (some ⟨p, 0, none⟩)] w fun e w' => e = .returned (.agg #[.int .i64 s.rb, .int .i64 s.rl, .int .i64 s.ri]) ∧ Below w.heap.size w w' := room_any w h
theorem rroom_anyV {lo hi p : Nat} {s : SS} (w : World) (h : IsQ w lo hi p s) : Calls Try.prog 14 #[.pointer (some ⟨p, 0, none⟩)] w fun e w' => e = .returned (.agg #[.int .i64 s.rb, .int .i64 s.rl, .int .i64 s.ri]) ∧ Below w.heap.size w w' := rroom_any w h
theorem lent_ints8 {w : World} {g : Nat} {zs : List Int} {t : TypeId} (h : w.heap[g]? = some (.cells (ZA (lentL zs)) t (0, 0))) : IntsAt w (some ⟨g, 0, none⟩) zs :=
  .inr ⟨g, 0, rfl, slt h, fun j hj => by
    rw [Nat.zero_add, ZA_at h j (by rw [lentL_len]; omega), lentL_get zs j (by omega), if_pos hj]⟩
theorem Half.cS {w w1 : World} {X S R a b : Nat} {P Q sl sh ql qh : Nat → Nat} {s : Nat → SS} {k : Nat} {s1 : SS} (h : Half w w1 X S R a b P Q sl sh ql qh s k s1) (hk : k < 2) : w1.cell? ⟨S, k, none⟩ = some (.pointer (some ⟨P k, 0, none⟩)) := by
  rw [cell_of_row _ _ _ _ _ _ h.sa]
  match k, hk with
  | 0, _ => rfl
  | 1, _ => rfl
theorem ints_off {w : World} {a : Option Addr} {l : List Int} {lo hi : Nat} (h : IntsAt w a l) (hl : w.heap.size ≤ lo) : l = [] ∨ Off a lo hi := by
  rcases h with h | ⟨b, o, h1, h2, _⟩
  · exact .inl h
  · refine .inr fun b' o' e r => ?_
    rw [h1] at e
    cases e
    have := r.1
    omega
/-- Two of a kind. -/
def two {α : Type} (x y : α) : Nat → α
  | 0 => x
  | _ => y
theorem start_quad {w wr : World} {X S R a b p0 p1 q0 q1 l0 l1 l2 m0 m1 m2 : Nat} {s : SS} (z : Z0 w wr X S R a b (.pointer (some ⟨p0, 0, none⟩)) (.pointer (some ⟨p1, 0, none⟩)) (.pointer (some ⟨q0, 0, none⟩)) (.pointer (some ⟨q1, 0, none⟩)))
    (h0 : IsS wr l0 l1 p0 s) (g0 : IsQ wr l1 l2 q0 s) (h1 : IsS wr m0 m1 p1 s) (g1 : IsQ wr m1 m2 q1 s) (hl : l0 ≤ l1 ∧ l1 ≤ l2 ∧ l2 ≤ m0 ∧ m0 ≤ m1 ∧ m1 ≤ m2) (hx : X < l0 ∧ S < l0 ∧ R < l0) :
    Quad w wr X S R a b (two p0 p1) (two q0 q1) (two l0 m0) (two l1 m1) (two l1 m1) (two l2 m2) (fun _ => s) := by
  have hn := z.ne
  refine ⟨z.x, z.sa, z.ra, fun k hk => ?_, fun k hk => ?_, fun k hk => ?_, fun k j hk hj => ?_, z.be⟩
  · match k, hk with
    | 0, _ => exact h0
    | 1, _ => exact h1
  · match k, hk with
    | 0, _ => exact g0
    | 1, _ => exact g1
  · match k, hk with
    | 0, _ => exact ⟨⟨hx.1, hx.2.1, hx.2.2, by show _ ≤ l0; omega⟩, by show X < l1; omega, by show S < l1; omega, by show R < l1; omega, by show _ ≤ l1; omega⟩
    | 1, _ => exact ⟨⟨by show X < m0; omega, by show S < m0; omega, by show R < m0; omega, by show _ ≤ m0; omega⟩, by show X < m1; omega, by show S < m1; omega, by show R < m1; omega, by show _ ≤ m1; omega⟩
  · have ds : ∀ {c d e f : Nat}, d ≤ e → Dis c d e f := fun h x h1 h2 => by have := h1.2; have := h2.1; omega
    have dt : ∀ {c d e f : Nat}, f ≤ c → Dis c d e f := fun h x h1 h2 => by have := h1.1; have := h2.2; omega
    match k, hk, j, hj with
    | 0, _, 0, _ => exact ⟨fun e => absurd rfl e, ds (Nat.le_refl _), fun e => absurd rfl e⟩
    | 0, _, 1, _ => exact ⟨fun _ => ds (by show l1 ≤ m0; omega), ds (by show l1 ≤ m1; omega), fun _ => ds (by show l2 ≤ m1; omega)⟩
    | 1, _, 0, _ => exact ⟨fun _ => dt (by show l1 ≤ m0; omega), dt (by show l2 ≤ m0; omega), fun _ => dt (by show l2 ≤ m1; omega)⟩
    | 1, _, 1, _ => exact ⟨fun e => absurd rfl e, ds (Nat.le_refl _), fun e => absurd rfl e⟩

set_option maxRecDepth 100000 in
set_option maxHeartbeats 8000000 in
theorem plays_walk (sc ic : Int) (ws : List OpV) (ad : Option Addr) (cap : Nat) (w : World) (hs : I64 sc) (hic : I64 ic) (hl : ws.length ≤ 140737488355328) (HZ : ScriptAt w ad ws) (HOK : ∀ s, s ∈ ws → s.OK) :
    Calls Try.prog 4 #[.int .i64 sc, .int .i64 ic, .slice ad ws.length cap] w fun e w' => e = .returned (.bool true) ∧ Below w.heap.size w w' := by
  obtain ⟨a, b, h, HSup⟩ := super_ex sc ic hs hic
  replace HSup := hid HSup
  replace HZ := hid HZ
  replace HOK := hid HOK
  have HN := hid fun w => sNew_nil a b (mayB_of h) w
  have HQN := hid fun w => by
    have e := rNew_may a b (mayB_of h) [] [] none none 0 0 0 0 w rfl (by decide) (IntsAt.nil _) rfl (by decide) (IntsAt.nil _)
    rw [newS_nil] at e
    exact e
  have hbb : b ≤ 512 := h.2.2.2.1
  have hb1 : 1 ≤ b := h.2.2.1
  generalize hlen : ws.length = len at *
  replace hlen := hid hlen
  clear h
  have hz2 := zero_2S
  have hz3 := zero_2Q
  go_enter Try.func4, Try.ntmps4
  go_upto_region 2 with (go_at_call 5; refine (awake_any _).mono ?_; rintro e w1 ⟨rfl, b1⟩; have B1 := hid b1; clear b1)
  go_upto_region 3 with (go_at_call 17; refine (HSup.out _).mono ?_; rintro e w2 ⟨rfl, b2⟩; have BW2 := hid (B1.out.trans (b2.mono B1.out.size)); clear b2)
  go_upto_region 5 with (fail)
  have Z1 : Hid (Z0 w (((w2.alloc (.cells #[.int .i64 (a : Int), .int .i64 (b : Int)] 23)).alloc (.cells #[.pointer none, .pointer none] 47)).alloc (.cells #[.pointer none, .pointer none] 48)) w2.heap.size (w2.heap.size + 1) (w2.heap.size + 1 + 1) a b (.pointer none) (.pointer none) (.pointer none) (.pointer none)) := by
    have c2 := below_box w2 (.cells #[.int .i64 (a : Int), .int .i64 (b : Int)] 23)
    have x0 := heap_alloc_new w2 (.cells #[.int .i64 (a : Int), .int .i64 (b : Int)] 23)
    have e2 : (w2.alloc (.cells #[.int .i64 (a : Int), .int .i64 (b : Int)] 23)).heap.size = w2.heap.size + 1 := by simp
    have b3 := BW2.out.trans (c2.mono BW2.out.size)
    generalize w2.alloc (.cells #[.int .i64 (a : Int), .int .i64 (b : Int)] 23) = w3 at *
    have c3 := below_box w3 (.cells #[.pointer none, .pointer none] 47)
    have x3 := heap_alloc_new w3 (.cells #[.pointer none, .pointer none] 47)
    have e3 : (w3.alloc (.cells #[.pointer none, .pointer none] 47)).heap.size = w3.heap.size + 1 := by simp
    have b4 := b3.trans (c3.mono b3.size)
    generalize w3.alloc (.cells #[.pointer none, .pointer none] 47) = w4 at *
    have c4 := below_box w4 (.cells #[.pointer none, .pointer none] 48)
    have x4 := heap_alloc_new w4 (.cells #[.pointer none, .pointer none] 48)
    rw [e2] at x3 e3
    rw [e3] at x4
    have hsz := BW2.out.size
    exact ⟨(Chg.of_below c4 No).keep ((Chg.of_below c3 No).keep x0 (fun e => e)) (fun e => e), (Chg.of_below c4 No).keep x3 (fun e => e), x4, ⟨by omega, by omega, by omega, by omega, by omega, by omega⟩, b4.trans (c4.mono b4.size)⟩
  clear B1 BW2 HSup hz2 hz3
  generalize ((w2.alloc (.cells #[.int .i64 (a : Int), .int .i64 (b : Int)] 23)).alloc (.cells #[.pointer none, .pointer none] 47)).alloc (.cells #[.pointer none, .pointer none] 48) = w3 at *
  generalize hR : w2.heap.size + 1 + 1 = R at *
  generalize hS : w2.heap.size + 1 = S at *
  generalize hX : w2.heap.size = X at *
  clear hR hS hX
  go_wp2
  go_loopw [11] (fun i wr => (i = .int .i64 0 ∧ Hid (Z0 w wr X S R a b (.pointer none) (.pointer none) (.pointer none) (.pointer none))) ∨ (i = .int .i64 1 ∧ Hid (∃ p q l0 l1 l2, Z0 w wr X S R a b (.pointer (some ⟨p, 0, none⟩)) (.pointer none) (.pointer (some ⟨q, 0, none⟩)) (.pointer none) ∧ IsS wr l0 l1 p (nil0 a b) ∧ IsQ wr l1 l2 q (nil0 a b) ∧ l0 ≤ l1 ∧ l1 ≤ l2 ∧ X < l0 ∧ S < l0 ∧ R < l0)) ∨ (i = .int .i64 2 ∧ Hid (∃ P Q sl sh ql qh s, Quad w wr X S R a b P Q sl sh ql qh s))) (fun i _ => (2 - intOf i).toNat)
  case atStart => exact .inl ⟨rfl, Z1⟩
  case round =>
    clear Z1
    rcases hrel with ⟨rfl, HZ1⟩ | ⟨rfl, HZ1⟩ | ⟨rfl, HI⟩
    · have c0 := (cells2 HZ1.out.x).1
      have c1 := (cells2 HZ1.out.x).2
      go_upto_region 9 with (go_at_call 7; refine (HN.out _).mono ?_; rintro e w4 ⟨p, rfl, h4, b4⟩; have H4 := hid h4; have B4 := hid b4; clear h4 b4)
      have Z4 := hid (HZ1.out.call B4.out)
      clear c0 c1
      have c0 := (cells2 Z4.out.x).1
      have c1 := (cells2 Z4.out.x).2
      go_upto_region 12 with (go_at_call 9; refine (HQN.out _).mono ?_; rintro e w5 ⟨q, rfl, h5, b5⟩; have H5 := hid h5; have B5 := hid b5; clear h5 b5)
      have Z5 := hid (Z4.out.call B5.out)
      have HF := hid (Z5.out.put 0 (.pointer (some ⟨p, 0, none⟩)) (.pointer (some ⟨q, 0, none⟩)) (.pointer (some ⟨p, 0, none⟩)) (.pointer none) (.pointer (some ⟨q, 0, none⟩)) (.pointer none) rfl rfl)
      have hs1 := slt HZ1.out.x
      have hs2 := slt HZ1.out.sa
      have hs3 := slt HZ1.out.ra
      have hs4 := B4.out.size
      have hs5 := B5.out.size
      have HS5 := hid ((H4.out.call B5.out).keep HF.out.2 (fun k hk e => by have := hk.1; omega))
      have HQ5 := hid (H5.out.keep HF.out.2 (fun k hk e => by have := hk.1; omega))
      have HG := hid (show wr.heap.size ≤ w4.heap.size ∧ w4.heap.size ≤ w5.heap.size ∧ X < wr.heap.size ∧ S < wr.heap.size ∧ R < wr.heap.size from ⟨hs4, hs5, hs1, hs2, hs3⟩)
      have y0 := (cells2 Z5.out.sa).1
      have y1 := (cells2 Z5.out.ra).1
      have f0 := frozen_of_row w5 S 0 _ _ Z5.out.sa
      have f1 := frozen_of_row w5 R 0 _ _ Z5.out.ra
      clear c0 c1 hs1 hs2 hs3 hs4 hs5 H4 H5 B4 B5 Z4
      have hSR : S ≠ R := HZ1.out.ne.2.2.1
      have hSR2 : R ≠ S := fun e => hSR e.symm
      go_upto_region 13 with (fail)
      have y2 : (w5.setCell ⟨S, 0, none⟩ (.pointer (some ⟨p, 0, none⟩))).cell? ⟨R, 0, none⟩ = some (.pointer none) := (cells2 ((Chg.setCell (w := w5) (g := S) (j := 0)).keep Z5.out.ra hSR2)).1
      have f2 := frozen_of_row (w5.setCell ⟨S, 0, none⟩ (.pointer (some ⟨p, 0, none⟩))) R 0 _ _ ((Chg.setCell (w := w5) (g := S) (j := 0)).keep Z5.out.ra hSR2)
      clear y0 y1 f0 f1
      go_wp2
      go_roundw
      case rel => exact .inr (.inl ⟨by go_num, hid ⟨p, q, wr.heap.size, w4.heap.size, w5.heap.size, HF.out.1, HS5.out, HQ5.out, HG.out⟩⟩)
      case measure => simp [intOf]
    · obtain ⟨p0, q0, l0, l1, l2, Zz, hS0, hQ0, hl0⟩ := HZ1.out
      have HZ2 := hid Zz
      have HS0 := hid hS0
      have HQ0 := hid hQ0
      have HL0 := hid hl0
      clear Zz hS0 hQ0 hl0 HZ1
      have c0 := (cells2 HZ2.out.x).1
      have c1 := (cells2 HZ2.out.x).2
      go_upto_region 9 with (go_at_call 7; refine (HN.out _).mono ?_; rintro e w4 ⟨p, rfl, h4, b4⟩; have H4 := hid h4; have B4 := hid b4; clear h4 b4)
      have Z4 := hid (HZ2.out.call B4.out)
      clear c0 c1
      have c0 := (cells2 Z4.out.x).1
      have c1 := (cells2 Z4.out.x).2
      go_upto_region 12 with (go_at_call 9; refine (HQN.out _).mono ?_; rintro e w5 ⟨q, rfl, h5, b5⟩; have H5 := hid h5; have B5 := hid b5; clear h5 b5)
      have Z5 := hid (Z4.out.call B5.out)
      have HF := hid (Z5.out.put 1 (.pointer (some ⟨p, 0, none⟩)) (.pointer (some ⟨q, 0, none⟩)) (.pointer (some ⟨p0, 0, none⟩)) (.pointer (some ⟨p, 0, none⟩)) (.pointer (some ⟨q0, 0, none⟩)) (.pointer (some ⟨q, 0, none⟩)) rfl rfl)
      have hs1 := slt HZ2.out.x
      have hs2 := slt HZ2.out.sa
      have hs3 := slt HZ2.out.ra
      have hs4 := B4.out.size
      have hs5 := B5.out.size
      have hL := HL0.out
      have ht := HQ0.out.top
      have HS1 := hid ((H4.out.call B5.out).keep HF.out.2 (fun k hk e => by have := hk.1; omega))
      have HQ1 := hid (H5.out.keep HF.out.2 (fun k hk e => by have := hk.1; omega))
      have HS2 := hid (((HS0.out.call B4.out).call B5.out).keep HF.out.2 (fun k hk e => by have := hk.1; omega))
      have HQ2 := hid (((HQ0.out.call B4.out).call B5.out).keep HF.out.2 (fun k hk e => by have := hk.1; omega))
      have HE : Hid (∃ P Q sl sh ql qh s, Quad w ((w5.setCell ⟨S, 1, none⟩ (.pointer (some ⟨p, 0, none⟩))).setCell ⟨R, 1, none⟩ (.pointer (some ⟨q, 0, none⟩))) X S R a b P Q sl sh ql qh s) := ⟨_, _, _, _, _, _, _, start_quad HF.out.1 HS2.out HQ2.out HS1.out HQ1.out ⟨hL.1, hL.2.1, ht, hs4, hs5⟩ hL.2.2⟩
      have y0 := (cells2 Z5.out.sa).2
      have f0 := frozen_of_row w5 S 1 _ _ Z5.out.sa
      have hSR2 : R ≠ S := fun e => HZ2.out.ne.2.2.1 e.symm
      clear c0 c1 hs1 hs2 hs3 hs4 hs5 hL ht H4 H5 B4 B5 Z4 HS1 HQ1 HS2 HQ2 HS0 HQ0 HL0 HF
      go_upto_region 13 with (fail)
      have y2 : (w5.setCell ⟨S, 1, none⟩ (.pointer (some ⟨p, 0, none⟩))).cell? ⟨R, 1, none⟩ = some (.pointer none) := (cells2 ((Chg.setCell (w := w5) (g := S) (j := 1)).keep Z5.out.ra hSR2)).2
      have f2 := frozen_of_row (w5.setCell ⟨S, 1, none⟩ (.pointer (some ⟨p, 0, none⟩))) R 1 _ _ ((Chg.setCell (w := w5) (g := S) (j := 1)).keep Z5.out.ra hSR2)
      clear y0 f0
      go_wp2
      go_roundw
      case rel => exact .inr (.inr ⟨by go_num, HE⟩)
      case measure => simp [intOf]
    · obtain ⟨P, Q, sl, sh, ql, qh, s0, hI⟩ := HI.out
      have HI0 := hid hI
      clear hI HN HQN HI
      go_wp2
      go_loopw [16] (fun i wr => ∃ (j : Nat) (s : Nat → SS), j ≤ len ∧ i = .int .i64 j ∧ Hid (Quad w wr X S R a b P Q sl sh ql qh s)) (fun i _ => len - (intOf i).toNat)
      case atStart => exact ⟨0, s0, by omega, rfl, HI0⟩
      case round =>
        clear HI0
        obtain ⟨j, s, hj, rfl, HI⟩ := hrel
        by_cases hlt : j < len
        · obtain ⟨bq, o, al, cl, rfl, hr, hAl⟩ := HZ.out.range HI.out.be (j := j) (by rw [hlen.out]; exact hlt)
          have hok := HOK.out (ws.getD j OpV.z) (by rw [List.getD_eq_getElem?_getD, List.getElem?_eq_getElem (by rw [hlen.out]; exact hlt)]; exact List.getElem_mem _)
          generalize ws.getD j OpV.z = sv at hr hok hAl
          obtain ⟨kd, on, nn, ll⟩ := sv
          obtain ⟨hkd, hon, hnn, hl64, hll⟩ := hok
          have hnn : I64 nn := hnn
          replace hAl := hid hAl
          replace hl64 := hid hl64
          have hl64 : Hid (∀ x, x ∈ ll → I64 x) := hl64
          have hAl : Hid (IntsAt w al ll) := hAl
          have hll : ll.length ≤ 17592186043904 := hll
          generalize hL : ll.length = L at hll
          have hr : wr.rangeAt bq (o + j * 4) [.int .i64 kd, .int .i64 on, .int .i64 nn, .slice al L cl] := by rw [← hL]; exact hr
          replace hL := hid hL
          have HPK := hid fun w => pick_any on 2 w hon (by decide) (by decide)
          obtain ⟨k, hk, hk2⟩ := pickNat (c := on) (show (1 : Int) ≤ 2 by decide)
          rw [hk] at HPK
          have hk' : k < 2 := by omega
          clear hk hkd hon
          have hjl : (j : Int) < (len : Int) := by omega
          have hzo := zero_op
          have HQq := hid (heap_alloc_new wr (.cells #[.int .i64 kd, .int .i64 on, .int .i64 nn, .slice al L cl] 50))
          go_upto_region 18 with (refine wpList_load_mid rfl 50 _ rfl bq (o + j * 4) rfl [.int .i64 kd, .int .i64 on, .int .i64 nn, .slice al L cl] _ hr Try.underlying50 rfl (by rw [szO]; rfl) ?_)
          have HI3 := hid (HI.out.call (below_box wr (.cells #[.int .i64 kd, .int .i64 on, .int .i64 nn, .slice al L cl] 50)))
          have HU : Hid (∀ i, i < 2 → sh i ≤ wr.heap.size ∧ qh i ≤ wr.heap.size) := fun i hi => ⟨(HI.out.ss i hi).top, (HI.out.qq i hi).top⟩
          clear hzo hr HI
          generalize wr.alloc (.cells #[.int .i64 kd, .int .i64 on, .int .i64 nn, .slice al L cl] 50) = w3 at *
          generalize wr.heap.size = u at *
          have hc0 := (cells4q HQq.out).1
          have hc1 := (cells4q HQq.out).2.1
          go_upto_region 21 with (go_at_call 18; refine (HPK.out _).mono ?_; rintro e w4 ⟨rfl, rfl⟩)
          clear hc0 hc1 HPK
          by_cases q1 : kd = 1
          · as_aux_lemma =>
              subst q1
              obtain ⟨y, bb, hF⟩ := first_ex (bt (s k).T) (((s k).ni : Int) + 1)
              have TS := hid (takeBlock_any (s := s k) (lo := sl k) (hi := sh k) (p := P k) y bb w3 (HI3.out.ss k hk') hF)
              have TQ := hid fun w h => rtakeBlock_any (s := s k) (lo := ql k) (hi := qh k) (p := Q k) y bb w h hF
              generalize errN bb 80 = er at *
              have kS := HI3.out.cS hk'
              clear hF
              go_upto_region 23 with (go_at_call 15; refine TS.out.mono ?_; rintro e w5 ⟨rfl, h5, c5⟩; have H5 := hid (HI3.out.half hk' h5 c5); clear h5 c5)
              have kR := H5.out.cR hk'
              clear kS TS HI3
              go_upto_region 44 with (go_at_call 16; refine (TQ.out _ (H5.out.qq k hk')).mono ?_; rintro e w6 ⟨rfl, h6, c6⟩; have H6 := hid (H5.out.full hk' h6 c6); clear h6 c6)
              clear kR TQ H5
              refine wp_region_noPanic ?_
              refine wp_region_held_drew (S := fun w' => Quad w w' X S R a b P Q sl sh ql qh ((fun i => if i = k then (s k).takeS y bb else s i))) (by as_aux_lemma => kernel_rfl) (H6.out.drewN 1) (fun hHeld => ?_)
              refine takeVal 0 212 (.bool true) rfl (by as_aux_lemma => kernel_rfl) (by as_aux_lemma => kernel_rfl) (by as_aux_lemma => kernel_rfl) rfl (by rfl) (fun _ _ _ h => h) hHeld (fun _ hw' => rfl) ?_
              simp only [List.setIfInBounds_toArray, List.set_cons_zero, List.set_cons_succ]
              refine takeVal 1 213 (.bool false) rfl (by as_aux_lemma => kernel_rfl) (by as_aux_lemma => kernel_rfl) (by as_aux_lemma => kernel_rfl) rfl (by rfl) (fun _ _ _ h => h) hHeld (fun _ hw' => by go_simp) ?_
              simp only [List.setIfInBounds_toArray, List.set_cons_zero, List.set_cons_succ]
              refine takeVal 2 214 (.bool false) rfl (by as_aux_lemma => kernel_rfl) (by as_aux_lemma => kernel_rfl) (by as_aux_lemma => kernel_rfl) rfl (by rfl) (fun _ _ _ h => h) hHeld (fun _ hw' => rfl) ?_
              simp only [List.setIfInBounds_toArray, List.set_cons_zero, List.set_cons_succ]
              refine takeVal 3 215 (.pointer (some ⟨S, 0, none⟩)) rfl (by as_aux_lemma => kernel_rfl) (by as_aux_lemma => kernel_rfl) (by as_aux_lemma => kernel_rfl) rfl (by rfl) (fun _ _ _ h => h) hHeld (fun _ hw' => by go_simp) ?_
              simp only [List.setIfInBounds_toArray, List.set_cons_zero, List.set_cons_succ]
              refine takeVal 4 216 (.pointer (some ⟨P 0, 0, none⟩)) rfl (by as_aux_lemma => kernel_rfl) (by as_aux_lemma => kernel_rfl) (by as_aux_lemma => kernel_rfl) rfl (by rfl) (fun _ _ _ h => h) hHeld (fun _ hw' => by have cc := hw'.cS (k := 0) (by decide); go_simp) ?_
              simp only [List.setIfInBounds_toArray, List.set_cons_zero, List.set_cons_succ]
              refine takeVal 6 218 (.pointer (some ⟨R, 0, none⟩)) rfl (by as_aux_lemma => kernel_rfl) (by as_aux_lemma => kernel_rfl) (by as_aux_lemma => kernel_rfl) rfl (by rfl) (fun _ _ _ h => h) hHeld (fun _ hw' => by go_simp) ?_
              simp only [List.setIfInBounds_toArray, List.set_cons_zero, List.set_cons_succ]
              refine takeVal 7 219 (.pointer (some ⟨Q 0, 0, none⟩)) rfl (by as_aux_lemma => kernel_rfl) (by as_aux_lemma => kernel_rfl) (by as_aux_lemma => kernel_rfl) rfl (by rfl) (fun _ _ _ h => h) hHeld (fun _ hw' => by have cc := hw'.cR (k := 0) (by decide); go_simp) ?_
              simp only [List.setIfInBounds_toArray, List.set_cons_zero, List.set_cons_succ]
              refine step1 5 (by as_aux_lemma => kernel_rfl) ?_
              refine stCall 5 217 13 #[.pointer (some ⟨P 0, 0, none⟩)] _ rfl rfl (by rfl) (by go_simp) (room_anyV _ (hHeld.ss 0 (by decide))) ?_
              rintro e wa ⟨rfl, bwa⟩
              replace hHeld := hHeld.call bwa
              refine ⟨_, rfl, hHeld, ?_⟩
              simp only [List.setIfInBounds_toArray, List.set_cons_zero, List.set_cons_succ]
              refine step1 8 (by as_aux_lemma => kernel_rfl) ?_
              refine stCall 8 220 14 #[.pointer (some ⟨Q 0, 0, none⟩)] _ rfl rfl (by rfl) (by go_simp) (rroom_anyV _ (hHeld.qq 0 (by decide))) ?_
              rintro e wb ⟨rfl, bwb⟩
              replace hHeld := hHeld.call bwb
              refine ⟨_, rfl, hHeld, ?_⟩
              simp only [List.setIfInBounds_toArray, List.set_cons_zero, List.set_cons_succ]
              refine takeVal 9 221 (.bool false) rfl (by as_aux_lemma => kernel_rfl) (by as_aux_lemma => kernel_rfl) (by as_aux_lemma => kernel_rfl) rfl (by rfl) (fun _ _ _ h => h) hHeld (fun _ hw' => by go_simp) ?_
              simp only [List.setIfInBounds_toArray, List.set_cons_zero, List.set_cons_succ]
              refine takeVal 10 222 (.bool false) rfl (by as_aux_lemma => kernel_rfl) (by as_aux_lemma => kernel_rfl) (by as_aux_lemma => kernel_rfl) rfl (by rfl) (fun _ _ _ h => h) hHeld (fun _ hw' => rfl) ?_
              simp only [List.setIfInBounds_toArray, List.set_cons_zero, List.set_cons_succ]
              refine takeVal 11 223 (.bool false) rfl (by as_aux_lemma => kernel_rfl) (by as_aux_lemma => kernel_rfl) (by as_aux_lemma => kernel_rfl) rfl (by rfl) (fun _ _ _ h => h) hHeld (fun _ hw' => rfl) ?_
              simp only [List.setIfInBounds_toArray, List.set_cons_zero, List.set_cons_succ]
              refine takeVal 12 224 (.pointer (some ⟨S, 1, none⟩)) rfl (by as_aux_lemma => kernel_rfl) (by as_aux_lemma => kernel_rfl) (by as_aux_lemma => kernel_rfl) rfl (by rfl) (fun _ _ _ h => h) hHeld (fun _ hw' => by go_simp) ?_
              simp only [List.setIfInBounds_toArray, List.set_cons_zero, List.set_cons_succ]
              refine takeVal 13 225 (.pointer (some ⟨P 1, 0, none⟩)) rfl (by as_aux_lemma => kernel_rfl) (by as_aux_lemma => kernel_rfl) (by as_aux_lemma => kernel_rfl) rfl (by rfl) (fun _ _ _ h => h) hHeld (fun _ hw' => by have cc := hw'.cS (k := 1) (by decide); go_simp) ?_
              simp only [List.setIfInBounds_toArray, List.set_cons_zero, List.set_cons_succ]
              refine takeVal 15 227 (.pointer (some ⟨R, 1, none⟩)) rfl (by as_aux_lemma => kernel_rfl) (by as_aux_lemma => kernel_rfl) (by as_aux_lemma => kernel_rfl) rfl (by rfl) (fun _ _ _ h => h) hHeld (fun _ hw' => by go_simp) ?_
              simp only [List.setIfInBounds_toArray, List.set_cons_zero, List.set_cons_succ]
              refine takeVal 16 228 (.pointer (some ⟨Q 1, 0, none⟩)) rfl (by as_aux_lemma => kernel_rfl) (by as_aux_lemma => kernel_rfl) (by as_aux_lemma => kernel_rfl) rfl (by rfl) (fun _ _ _ h => h) hHeld (fun _ hw' => by have cc := hw'.cR (k := 1) (by decide); go_simp) ?_
              simp only [List.setIfInBounds_toArray, List.set_cons_zero, List.set_cons_succ]
              refine step1 14 (by as_aux_lemma => kernel_rfl) ?_
              refine stCall 14 226 13 #[.pointer (some ⟨P 1, 0, none⟩)] _ rfl rfl (by rfl) (by go_simp) (room_anyV _ (hHeld.ss 1 (by decide))) ?_
              rintro e wc ⟨rfl, bwc⟩
              replace hHeld := hHeld.call bwc
              refine ⟨_, rfl, hHeld, ?_⟩
              simp only [List.setIfInBounds_toArray, List.set_cons_zero, List.set_cons_succ]
              refine step1 17 (by as_aux_lemma => kernel_rfl) ?_
              refine stCall 17 229 14 #[.pointer (some ⟨Q 1, 0, none⟩)] _ rfl rfl (by rfl) (by go_simp) (rroom_anyV _ (hHeld.qq 1 (by decide))) ?_
              rintro e wd ⟨rfl, bwd⟩
              replace hHeld := hHeld.call bwd
              refine ⟨_, rfl, hHeld, ?_⟩
              simp only [List.setIfInBounds_toArray, List.set_cons_zero, List.set_cons_succ]
              refine takeVal 18 230 (.bool false) rfl (by as_aux_lemma => kernel_rfl) (by as_aux_lemma => kernel_rfl) (by as_aux_lemma => kernel_rfl) rfl (by rfl) (fun _ _ _ h => h) hHeld (fun _ hw' => by go_simp) ?_
              simp only [List.setIfInBounds_toArray, List.set_cons_zero, List.set_cons_succ]
              refine takeVal 19 231 (.bool false) rfl (by as_aux_lemma => kernel_rfl) (by as_aux_lemma => kernel_rfl) (by as_aux_lemma => kernel_rfl) rfl (by rfl) (fun _ _ _ h => h) hHeld (fun _ hw' => rfl) ?_
              simp only [List.setIfInBounds_toArray, List.set_cons_zero, List.set_cons_succ]
              refine wpAnyH_done (by as_aux_lemma => kernel_rfl) ?_ _
              refine NoPanic.normal ?_
              have HE := hid hHeld
              clear hHeld
              go_wp2_with fail
              exact ⟨⟨j + 1, (fun i => if i = k then (s k).takeS y bb else s i), by omega, by go_num, HE⟩, by simp [intOf]; omega⟩
          · have q1' : (kd == 1) = false := beq_false_of_ne q1
            clear q1
            by_cases q2 : kd = 2
            · as_aux_lemma =>
                subst q2
                obtain ⟨y, bb, hF⟩ := first_ex (s k).I 1
                have TS := hid (takeInode_any (s := s k) (lo := sl k) (hi := sh k) (p := P k) y bb w3 (HI3.out.ss k hk') hF)
                have TQ := hid fun w h => rtakeInode_any (s := s k) (lo := ql k) (hi := qh k) (p := Q k) y bb w h hF
                generalize errN bb 81 = er at *
                have kS := HI3.out.cS hk'
                clear hF
                go_upto_region 27 with (go_at_call 19; refine TS.out.mono ?_; rintro e w5 ⟨rfl, h5, c5⟩; have H5 := hid (HI3.out.half hk' h5 c5); clear h5 c5)
                have kR := H5.out.cR hk'
                clear kS TS HI3
                go_upto_region 44 with (go_at_call 20; refine (TQ.out _ (H5.out.qq k hk')).mono ?_; rintro e w6 ⟨rfl, h6, c6⟩; have H6 := hid (H5.out.full hk' h6 c6); clear h6 c6)
                clear kR TQ H5
                refine wp_region_noPanic ?_
                refine wp_region_held_drew (S := fun w' => Quad w w' X S R a b P Q sl sh ql qh ((fun i => if i = k then (s k).takeI y bb else s i))) (by as_aux_lemma => kernel_rfl) (H6.out.drewN 1) (fun hHeld => ?_)
                refine takeVal 0 212 (.bool true) rfl (by as_aux_lemma => kernel_rfl) (by as_aux_lemma => kernel_rfl) (by as_aux_lemma => kernel_rfl) rfl (by rfl) (fun _ _ _ h => h) hHeld (fun _ hw' => rfl) ?_
                simp only [List.setIfInBounds_toArray, List.set_cons_zero, List.set_cons_succ]
                refine takeVal 1 213 (.bool false) rfl (by as_aux_lemma => kernel_rfl) (by as_aux_lemma => kernel_rfl) (by as_aux_lemma => kernel_rfl) rfl (by rfl) (fun _ _ _ h => h) hHeld (fun _ hw' => by go_simp) ?_
                simp only [List.setIfInBounds_toArray, List.set_cons_zero, List.set_cons_succ]
                refine takeVal 2 214 (.bool false) rfl (by as_aux_lemma => kernel_rfl) (by as_aux_lemma => kernel_rfl) (by as_aux_lemma => kernel_rfl) rfl (by rfl) (fun _ _ _ h => h) hHeld (fun _ hw' => rfl) ?_
                simp only [List.setIfInBounds_toArray, List.set_cons_zero, List.set_cons_succ]
                refine takeVal 3 215 (.pointer (some ⟨S, 0, none⟩)) rfl (by as_aux_lemma => kernel_rfl) (by as_aux_lemma => kernel_rfl) (by as_aux_lemma => kernel_rfl) rfl (by rfl) (fun _ _ _ h => h) hHeld (fun _ hw' => by go_simp) ?_
                simp only [List.setIfInBounds_toArray, List.set_cons_zero, List.set_cons_succ]
                refine takeVal 4 216 (.pointer (some ⟨P 0, 0, none⟩)) rfl (by as_aux_lemma => kernel_rfl) (by as_aux_lemma => kernel_rfl) (by as_aux_lemma => kernel_rfl) rfl (by rfl) (fun _ _ _ h => h) hHeld (fun _ hw' => by have cc := hw'.cS (k := 0) (by decide); go_simp) ?_
                simp only [List.setIfInBounds_toArray, List.set_cons_zero, List.set_cons_succ]
                refine takeVal 6 218 (.pointer (some ⟨R, 0, none⟩)) rfl (by as_aux_lemma => kernel_rfl) (by as_aux_lemma => kernel_rfl) (by as_aux_lemma => kernel_rfl) rfl (by rfl) (fun _ _ _ h => h) hHeld (fun _ hw' => by go_simp) ?_
                simp only [List.setIfInBounds_toArray, List.set_cons_zero, List.set_cons_succ]
                refine takeVal 7 219 (.pointer (some ⟨Q 0, 0, none⟩)) rfl (by as_aux_lemma => kernel_rfl) (by as_aux_lemma => kernel_rfl) (by as_aux_lemma => kernel_rfl) rfl (by rfl) (fun _ _ _ h => h) hHeld (fun _ hw' => by have cc := hw'.cR (k := 0) (by decide); go_simp) ?_
                simp only [List.setIfInBounds_toArray, List.set_cons_zero, List.set_cons_succ]
                refine step1 5 (by as_aux_lemma => kernel_rfl) ?_
                refine stCall 5 217 13 #[.pointer (some ⟨P 0, 0, none⟩)] _ rfl rfl (by rfl) (by go_simp) (room_anyV _ (hHeld.ss 0 (by decide))) ?_
                rintro e wa ⟨rfl, bwa⟩
                replace hHeld := hHeld.call bwa
                refine ⟨_, rfl, hHeld, ?_⟩
                simp only [List.setIfInBounds_toArray, List.set_cons_zero, List.set_cons_succ]
                refine step1 8 (by as_aux_lemma => kernel_rfl) ?_
                refine stCall 8 220 14 #[.pointer (some ⟨Q 0, 0, none⟩)] _ rfl rfl (by rfl) (by go_simp) (rroom_anyV _ (hHeld.qq 0 (by decide))) ?_
                rintro e wb ⟨rfl, bwb⟩
                replace hHeld := hHeld.call bwb
                refine ⟨_, rfl, hHeld, ?_⟩
                simp only [List.setIfInBounds_toArray, List.set_cons_zero, List.set_cons_succ]
                refine takeVal 9 221 (.bool false) rfl (by as_aux_lemma => kernel_rfl) (by as_aux_lemma => kernel_rfl) (by as_aux_lemma => kernel_rfl) rfl (by rfl) (fun _ _ _ h => h) hHeld (fun _ hw' => by go_simp) ?_
                simp only [List.setIfInBounds_toArray, List.set_cons_zero, List.set_cons_succ]
                refine takeVal 10 222 (.bool false) rfl (by as_aux_lemma => kernel_rfl) (by as_aux_lemma => kernel_rfl) (by as_aux_lemma => kernel_rfl) rfl (by rfl) (fun _ _ _ h => h) hHeld (fun _ hw' => rfl) ?_
                simp only [List.setIfInBounds_toArray, List.set_cons_zero, List.set_cons_succ]
                refine takeVal 11 223 (.bool false) rfl (by as_aux_lemma => kernel_rfl) (by as_aux_lemma => kernel_rfl) (by as_aux_lemma => kernel_rfl) rfl (by rfl) (fun _ _ _ h => h) hHeld (fun _ hw' => rfl) ?_
                simp only [List.setIfInBounds_toArray, List.set_cons_zero, List.set_cons_succ]
                refine takeVal 12 224 (.pointer (some ⟨S, 1, none⟩)) rfl (by as_aux_lemma => kernel_rfl) (by as_aux_lemma => kernel_rfl) (by as_aux_lemma => kernel_rfl) rfl (by rfl) (fun _ _ _ h => h) hHeld (fun _ hw' => by go_simp) ?_
                simp only [List.setIfInBounds_toArray, List.set_cons_zero, List.set_cons_succ]
                refine takeVal 13 225 (.pointer (some ⟨P 1, 0, none⟩)) rfl (by as_aux_lemma => kernel_rfl) (by as_aux_lemma => kernel_rfl) (by as_aux_lemma => kernel_rfl) rfl (by rfl) (fun _ _ _ h => h) hHeld (fun _ hw' => by have cc := hw'.cS (k := 1) (by decide); go_simp) ?_
                simp only [List.setIfInBounds_toArray, List.set_cons_zero, List.set_cons_succ]
                refine takeVal 15 227 (.pointer (some ⟨R, 1, none⟩)) rfl (by as_aux_lemma => kernel_rfl) (by as_aux_lemma => kernel_rfl) (by as_aux_lemma => kernel_rfl) rfl (by rfl) (fun _ _ _ h => h) hHeld (fun _ hw' => by go_simp) ?_
                simp only [List.setIfInBounds_toArray, List.set_cons_zero, List.set_cons_succ]
                refine takeVal 16 228 (.pointer (some ⟨Q 1, 0, none⟩)) rfl (by as_aux_lemma => kernel_rfl) (by as_aux_lemma => kernel_rfl) (by as_aux_lemma => kernel_rfl) rfl (by rfl) (fun _ _ _ h => h) hHeld (fun _ hw' => by have cc := hw'.cR (k := 1) (by decide); go_simp) ?_
                simp only [List.setIfInBounds_toArray, List.set_cons_zero, List.set_cons_succ]
                refine step1 14 (by as_aux_lemma => kernel_rfl) ?_
                refine stCall 14 226 13 #[.pointer (some ⟨P 1, 0, none⟩)] _ rfl rfl (by rfl) (by go_simp) (room_anyV _ (hHeld.ss 1 (by decide))) ?_
                rintro e wc ⟨rfl, bwc⟩
                replace hHeld := hHeld.call bwc
                refine ⟨_, rfl, hHeld, ?_⟩
                simp only [List.setIfInBounds_toArray, List.set_cons_zero, List.set_cons_succ]
                refine step1 17 (by as_aux_lemma => kernel_rfl) ?_
                refine stCall 17 229 14 #[.pointer (some ⟨Q 1, 0, none⟩)] _ rfl rfl (by rfl) (by go_simp) (rroom_anyV _ (hHeld.qq 1 (by decide))) ?_
                rintro e wd ⟨rfl, bwd⟩
                replace hHeld := hHeld.call bwd
                refine ⟨_, rfl, hHeld, ?_⟩
                simp only [List.setIfInBounds_toArray, List.set_cons_zero, List.set_cons_succ]
                refine takeVal 18 230 (.bool false) rfl (by as_aux_lemma => kernel_rfl) (by as_aux_lemma => kernel_rfl) (by as_aux_lemma => kernel_rfl) rfl (by rfl) (fun _ _ _ h => h) hHeld (fun _ hw' => by go_simp) ?_
                simp only [List.setIfInBounds_toArray, List.set_cons_zero, List.set_cons_succ]
                refine takeVal 19 231 (.bool false) rfl (by as_aux_lemma => kernel_rfl) (by as_aux_lemma => kernel_rfl) (by as_aux_lemma => kernel_rfl) rfl (by rfl) (fun _ _ _ h => h) hHeld (fun _ hw' => rfl) ?_
                simp only [List.setIfInBounds_toArray, List.set_cons_zero, List.set_cons_succ]
                refine wpAnyH_done (by as_aux_lemma => kernel_rfl) ?_ _
                refine NoPanic.normal ?_
                have HE := hid hHeld
                clear hHeld
                go_wp2_with fail
                exact ⟨⟨j + 1, (fun i => if i = k then (s k).takeI y bb else s i), by omega, by go_num, HE⟩, by simp [intOf]; omega⟩
            · have q2' : (kd == 2) = false := beq_false_of_ne q2
              clear q2
              by_cases q3 : kd = 3
              · as_aux_lemma =>
                  subst q3
                  obtain ⟨er, her⟩ : ∃ er, (s k).freeE nn = er := ⟨_, rfl⟩
                  have CS := hid fun w h => freeInode_any (s := s k) (lo := sl k) (hi := sh k) (p := P k) nn w h
                  have CQ := hid fun w h => rfree_any (s := s k) (lo := ql k) (hi := qh k) (p := Q k) nn w h
                  rw [her] at CS CQ
                  clear her
                  go_upto_region 30 with (fail)
                  refine wp_region_noPanic ?_
                  refine wp_region_held_drew (S := fun w' => w'.cell? ⟨S, k, none⟩ = some (.pointer (some ⟨P k, 0, none⟩)) ∧ w'.heap[u]? = some (.cells #[.int .i64 3, .int .i64 on, .int .i64 nn, .slice al L cl] 50 (0, 0))) (by as_aux_lemma => kernel_rfl) ⟨HI3.out.cS hk', HQq.out⟩ (fun hHeld => ?_)
                  refine takeVal 0 135 (.int .i64 (k : Int)) rfl (by as_aux_lemma => kernel_rfl) (by as_aux_lemma => kernel_rfl) (by as_aux_lemma => kernel_rfl) rfl (by rfl) (fun _ _ _ h => h) hHeld (fun _ hw' => rfl) ?_
                  simp only [List.setIfInBounds_toArray, List.set_cons_zero, List.set_cons_succ]
                  refine takeVal 1 136 (.pointer (some ⟨S, k, none⟩)) rfl (by as_aux_lemma => kernel_rfl) (by as_aux_lemma => kernel_rfl) (by as_aux_lemma => kernel_rfl) rfl (by rfl) (fun _ _ _ h => h) hHeld (fun _ hw' => by go_simp) ?_
                  simp only [List.setIfInBounds_toArray, List.set_cons_zero, List.set_cons_succ]
                  refine takeVal 2 137 (.pointer (some ⟨P k, 0, none⟩)) rfl (by as_aux_lemma => kernel_rfl) (by as_aux_lemma => kernel_rfl) (by as_aux_lemma => kernel_rfl) rfl (by rfl) (fun _ _ _ h => h) hHeld (fun _ hw' => by have cc := hw'.1; go_simp) ?_
                  simp only [List.setIfInBounds_toArray, List.set_cons_zero, List.set_cons_succ]
                  refine takeVal 3 138 (.pointer (some ⟨u, 2, none⟩)) rfl (by as_aux_lemma => kernel_rfl) (by as_aux_lemma => kernel_rfl) (by as_aux_lemma => kernel_rfl) rfl (by rfl) (fun _ _ _ h => h) hHeld (fun _ hw' => by go_simp) ?_
                  simp only [List.setIfInBounds_toArray, List.set_cons_zero, List.set_cons_succ]
                  refine takeVal 4 139 (.int .i64 nn) rfl (by as_aux_lemma => kernel_rfl) (by as_aux_lemma => kernel_rfl) (by as_aux_lemma => kernel_rfl) rfl (by rfl) (fun _ _ _ h => h) hHeld (fun _ hw' => by have cc := (cells4q hw'.2).2.2.1; go_simp) ?_
                  simp only [List.setIfInBounds_toArray, List.set_cons_zero, List.set_cons_succ]
                  refine step1 5 (by as_aux_lemma => kernel_rfl) ?_
                  refine stCall 5 140 21 #[.pointer (some ⟨P k, 0, none⟩), .int .i64 nn] _ rfl rfl (by rfl) (by go_simp) (CS.out _ ((HI3.out.drewN 1).ss k hk')) ?_
                  rintro e w5 ⟨rfl, h5, c5⟩
                  have H5 := hid ((HI3.out.drewN 1).half hk' h5 c5)
                  have HQ5 := hid (c5.new HQq.out (HU.out k hk').1)
                  clear h5 c5
                  replace hHeld := And.intro (H5.out.cS hk') HQ5.out
                  refine ⟨_, rfl, hHeld, ?_⟩
                  simp only [List.setIfInBounds_toArray, List.set_cons_zero, List.set_cons_succ]
                  refine takeVal 6 28 (.int .i64 er) rfl (by as_aux_lemma => kernel_rfl) (by as_aux_lemma => kernel_rfl) (by as_aux_lemma => kernel_rfl) rfl (by rfl) (fun _ _ _ h => h) hHeld (fun _ hw' => rfl) ?_
                  simp only [List.setIfInBounds_toArray, List.set_cons_zero, List.set_cons_succ]
                  refine wpAnyH_done (by as_aux_lemma => kernel_rfl) ?_ _
                  refine NoPanic.normal ?_
                  clear hHeld HI3 HQq
                  go_upto_region 31 with (fail)
                  refine wp_region_noPanic ?_
                  refine wp_region_held_drew (S := fun w' => w'.cell? ⟨R, k, none⟩ = some (.pointer (some ⟨Q k, 0, none⟩)) ∧ w'.heap[u]? = some (.cells #[.int .i64 3, .int .i64 on, .int .i64 nn, .slice al L cl] 50 (0, 0))) (by as_aux_lemma => kernel_rfl) ⟨H5.out.cR hk', HQ5.out⟩ (fun hHeld => ?_)
                  refine takeVal 0 141 (.int .i64 er) rfl (by as_aux_lemma => kernel_rfl) (by as_aux_lemma => kernel_rfl) (by as_aux_lemma => kernel_rfl) rfl (by rfl) (fun _ _ _ h => h) hHeld (fun _ hw' => rfl) ?_
                  simp only [List.setIfInBounds_toArray, List.set_cons_zero, List.set_cons_succ]
                  refine takeVal 1 142 (.int .i64 (k : Int)) rfl (by as_aux_lemma => kernel_rfl) (by as_aux_lemma => kernel_rfl) (by as_aux_lemma => kernel_rfl) rfl (by rfl) (fun _ _ _ h => h) hHeld (fun _ hw' => rfl) ?_
                  simp only [List.setIfInBounds_toArray, List.set_cons_zero, List.set_cons_succ]
                  refine takeVal 2 143 (.pointer (some ⟨R, k, none⟩)) rfl (by as_aux_lemma => kernel_rfl) (by as_aux_lemma => kernel_rfl) (by as_aux_lemma => kernel_rfl) rfl (by rfl) (fun _ _ _ h => h) hHeld (fun _ hw' => by go_simp) ?_
                  simp only [List.setIfInBounds_toArray, List.set_cons_zero, List.set_cons_succ]
                  refine takeVal 3 144 (.pointer (some ⟨Q k, 0, none⟩)) rfl (by as_aux_lemma => kernel_rfl) (by as_aux_lemma => kernel_rfl) (by as_aux_lemma => kernel_rfl) rfl (by rfl) (fun _ _ _ h => h) hHeld (fun _ hw' => by have cc := hw'.1; go_simp) ?_
                  simp only [List.setIfInBounds_toArray, List.set_cons_zero, List.set_cons_succ]
                  refine takeVal 4 145 (.pointer (some ⟨u, 2, none⟩)) rfl (by as_aux_lemma => kernel_rfl) (by as_aux_lemma => kernel_rfl) (by as_aux_lemma => kernel_rfl) rfl (by rfl) (fun _ _ _ h => h) hHeld (fun _ hw' => by go_simp) ?_
                  simp only [List.setIfInBounds_toArray, List.set_cons_zero, List.set_cons_succ]
                  refine takeVal 5 146 (.int .i64 nn) rfl (by as_aux_lemma => kernel_rfl) (by as_aux_lemma => kernel_rfl) (by as_aux_lemma => kernel_rfl) rfl (by rfl) (fun _ _ _ h => h) hHeld (fun _ hw' => by have cc := (cells4q hw'.2).2.2.1; go_simp) ?_
                  simp only [List.setIfInBounds_toArray, List.set_cons_zero, List.set_cons_succ]
                  refine step1 6 (by as_aux_lemma => kernel_rfl) ?_
                  refine stCall 6 147 22 #[.pointer (some ⟨Q k, 0, none⟩), .int .i64 nn] _ rfl rfl (by rfl) (by go_simp) (CQ.out _ ((H5.out.drewN 1).qq k hk')) ?_
                  rintro e w6 ⟨rfl, h6, c6⟩
                  have H6 := hid ((H5.out.drewN 1).full hk' h6 c6)
                  have HQ6 := hid (c6.new HQ5.out (HU.out k hk').2)
                  clear h6 c6
                  replace hHeld := And.intro (H6.out.cR hk') HQ6.out
                  refine ⟨_, rfl, hHeld, ?_⟩
                  simp only [List.setIfInBounds_toArray, List.set_cons_zero, List.set_cons_succ]
                  refine takeVal 7 148 (.bool true) rfl (by as_aux_lemma => kernel_rfl) (by as_aux_lemma => kernel_rfl) (by as_aux_lemma => kernel_rfl) rfl (by rfl) (fun _ _ _ h => h) hHeld (fun _ hw' => by go_simp) ?_
                  simp only [List.setIfInBounds_toArray, List.set_cons_zero, List.set_cons_succ]
                  refine takeVal 8 19 (.bool true) rfl (by as_aux_lemma => kernel_rfl) (by as_aux_lemma => kernel_rfl) (by as_aux_lemma => kernel_rfl) rfl (by rfl) (fun _ _ _ h => h) hHeld (fun _ hw' => rfl) ?_
                  simp only [List.setIfInBounds_toArray, List.set_cons_zero, List.set_cons_succ]
                  refine wpAnyH_done (by as_aux_lemma => kernel_rfl) ?_ _
                  refine NoPanic.normal ?_
                  clear hHeld H5 HQ5 HQ6
                  go_upto_region 44 with (fail)
                  refine wp_region_noPanic ?_
                  refine wp_region_held_drew (S := fun w' => Quad w w' X S R a b P Q sl sh ql qh ((fun i => if i = k then (s k).freeS nn else s i))) (by as_aux_lemma => kernel_rfl) (H6.out.drewN 1) (fun hHeld => ?_)
                  refine takeVal 0 212 (.bool true) rfl (by as_aux_lemma => kernel_rfl) (by as_aux_lemma => kernel_rfl) (by as_aux_lemma => kernel_rfl) rfl (by rfl) (fun _ _ _ h => h) hHeld (fun _ hw' => rfl) ?_
                  simp only [List.setIfInBounds_toArray, List.set_cons_zero, List.set_cons_succ]
                  refine takeVal 1 213 (.bool false) rfl (by as_aux_lemma => kernel_rfl) (by as_aux_lemma => kernel_rfl) (by as_aux_lemma => kernel_rfl) rfl (by rfl) (fun _ _ _ h => h) hHeld (fun _ hw' => by go_simp) ?_
                  simp only [List.setIfInBounds_toArray, List.set_cons_zero, List.set_cons_succ]
                  refine takeVal 2 214 (.bool false) rfl (by as_aux_lemma => kernel_rfl) (by as_aux_lemma => kernel_rfl) (by as_aux_lemma => kernel_rfl) rfl (by rfl) (fun _ _ _ h => h) hHeld (fun _ hw' => rfl) ?_
                  simp only [List.setIfInBounds_toArray, List.set_cons_zero, List.set_cons_succ]
                  refine takeVal 3 215 (.pointer (some ⟨S, 0, none⟩)) rfl (by as_aux_lemma => kernel_rfl) (by as_aux_lemma => kernel_rfl) (by as_aux_lemma => kernel_rfl) rfl (by rfl) (fun _ _ _ h => h) hHeld (fun _ hw' => by go_simp) ?_
                  simp only [List.setIfInBounds_toArray, List.set_cons_zero, List.set_cons_succ]
                  refine takeVal 4 216 (.pointer (some ⟨P 0, 0, none⟩)) rfl (by as_aux_lemma => kernel_rfl) (by as_aux_lemma => kernel_rfl) (by as_aux_lemma => kernel_rfl) rfl (by rfl) (fun _ _ _ h => h) hHeld (fun _ hw' => by have cc := hw'.cS (k := 0) (by decide); go_simp) ?_
                  simp only [List.setIfInBounds_toArray, List.set_cons_zero, List.set_cons_succ]
                  refine takeVal 6 218 (.pointer (some ⟨R, 0, none⟩)) rfl (by as_aux_lemma => kernel_rfl) (by as_aux_lemma => kernel_rfl) (by as_aux_lemma => kernel_rfl) rfl (by rfl) (fun _ _ _ h => h) hHeld (fun _ hw' => by go_simp) ?_
                  simp only [List.setIfInBounds_toArray, List.set_cons_zero, List.set_cons_succ]
                  refine takeVal 7 219 (.pointer (some ⟨Q 0, 0, none⟩)) rfl (by as_aux_lemma => kernel_rfl) (by as_aux_lemma => kernel_rfl) (by as_aux_lemma => kernel_rfl) rfl (by rfl) (fun _ _ _ h => h) hHeld (fun _ hw' => by have cc := hw'.cR (k := 0) (by decide); go_simp) ?_
                  simp only [List.setIfInBounds_toArray, List.set_cons_zero, List.set_cons_succ]
                  refine step1 5 (by as_aux_lemma => kernel_rfl) ?_
                  refine stCall 5 217 13 #[.pointer (some ⟨P 0, 0, none⟩)] _ rfl rfl (by rfl) (by go_simp) (room_anyV _ (hHeld.ss 0 (by decide))) ?_
                  rintro e wa ⟨rfl, bwa⟩
                  replace hHeld := hHeld.call bwa
                  refine ⟨_, rfl, hHeld, ?_⟩
                  simp only [List.setIfInBounds_toArray, List.set_cons_zero, List.set_cons_succ]
                  refine step1 8 (by as_aux_lemma => kernel_rfl) ?_
                  refine stCall 8 220 14 #[.pointer (some ⟨Q 0, 0, none⟩)] _ rfl rfl (by rfl) (by go_simp) (rroom_anyV _ (hHeld.qq 0 (by decide))) ?_
                  rintro e wb ⟨rfl, bwb⟩
                  replace hHeld := hHeld.call bwb
                  refine ⟨_, rfl, hHeld, ?_⟩
                  simp only [List.setIfInBounds_toArray, List.set_cons_zero, List.set_cons_succ]
                  refine takeVal 9 221 (.bool false) rfl (by as_aux_lemma => kernel_rfl) (by as_aux_lemma => kernel_rfl) (by as_aux_lemma => kernel_rfl) rfl (by rfl) (fun _ _ _ h => h) hHeld (fun _ hw' => by go_simp) ?_
                  simp only [List.setIfInBounds_toArray, List.set_cons_zero, List.set_cons_succ]
                  refine takeVal 10 222 (.bool false) rfl (by as_aux_lemma => kernel_rfl) (by as_aux_lemma => kernel_rfl) (by as_aux_lemma => kernel_rfl) rfl (by rfl) (fun _ _ _ h => h) hHeld (fun _ hw' => rfl) ?_
                  simp only [List.setIfInBounds_toArray, List.set_cons_zero, List.set_cons_succ]
                  refine takeVal 11 223 (.bool false) rfl (by as_aux_lemma => kernel_rfl) (by as_aux_lemma => kernel_rfl) (by as_aux_lemma => kernel_rfl) rfl (by rfl) (fun _ _ _ h => h) hHeld (fun _ hw' => rfl) ?_
                  simp only [List.setIfInBounds_toArray, List.set_cons_zero, List.set_cons_succ]
                  refine takeVal 12 224 (.pointer (some ⟨S, 1, none⟩)) rfl (by as_aux_lemma => kernel_rfl) (by as_aux_lemma => kernel_rfl) (by as_aux_lemma => kernel_rfl) rfl (by rfl) (fun _ _ _ h => h) hHeld (fun _ hw' => by go_simp) ?_
                  simp only [List.setIfInBounds_toArray, List.set_cons_zero, List.set_cons_succ]
                  refine takeVal 13 225 (.pointer (some ⟨P 1, 0, none⟩)) rfl (by as_aux_lemma => kernel_rfl) (by as_aux_lemma => kernel_rfl) (by as_aux_lemma => kernel_rfl) rfl (by rfl) (fun _ _ _ h => h) hHeld (fun _ hw' => by have cc := hw'.cS (k := 1) (by decide); go_simp) ?_
                  simp only [List.setIfInBounds_toArray, List.set_cons_zero, List.set_cons_succ]
                  refine takeVal 15 227 (.pointer (some ⟨R, 1, none⟩)) rfl (by as_aux_lemma => kernel_rfl) (by as_aux_lemma => kernel_rfl) (by as_aux_lemma => kernel_rfl) rfl (by rfl) (fun _ _ _ h => h) hHeld (fun _ hw' => by go_simp) ?_
                  simp only [List.setIfInBounds_toArray, List.set_cons_zero, List.set_cons_succ]
                  refine takeVal 16 228 (.pointer (some ⟨Q 1, 0, none⟩)) rfl (by as_aux_lemma => kernel_rfl) (by as_aux_lemma => kernel_rfl) (by as_aux_lemma => kernel_rfl) rfl (by rfl) (fun _ _ _ h => h) hHeld (fun _ hw' => by have cc := hw'.cR (k := 1) (by decide); go_simp) ?_
                  simp only [List.setIfInBounds_toArray, List.set_cons_zero, List.set_cons_succ]
                  refine step1 14 (by as_aux_lemma => kernel_rfl) ?_
                  refine stCall 14 226 13 #[.pointer (some ⟨P 1, 0, none⟩)] _ rfl rfl (by rfl) (by go_simp) (room_anyV _ (hHeld.ss 1 (by decide))) ?_
                  rintro e wc ⟨rfl, bwc⟩
                  replace hHeld := hHeld.call bwc
                  refine ⟨_, rfl, hHeld, ?_⟩
                  simp only [List.setIfInBounds_toArray, List.set_cons_zero, List.set_cons_succ]
                  refine step1 17 (by as_aux_lemma => kernel_rfl) ?_
                  refine stCall 17 229 14 #[.pointer (some ⟨Q 1, 0, none⟩)] _ rfl rfl (by rfl) (by go_simp) (rroom_anyV _ (hHeld.qq 1 (by decide))) ?_
                  rintro e wd ⟨rfl, bwd⟩
                  replace hHeld := hHeld.call bwd
                  refine ⟨_, rfl, hHeld, ?_⟩
                  simp only [List.setIfInBounds_toArray, List.set_cons_zero, List.set_cons_succ]
                  refine takeVal 18 230 (.bool false) rfl (by as_aux_lemma => kernel_rfl) (by as_aux_lemma => kernel_rfl) (by as_aux_lemma => kernel_rfl) rfl (by rfl) (fun _ _ _ h => h) hHeld (fun _ hw' => by go_simp) ?_
                  simp only [List.setIfInBounds_toArray, List.set_cons_zero, List.set_cons_succ]
                  refine takeVal 19 231 (.bool false) rfl (by as_aux_lemma => kernel_rfl) (by as_aux_lemma => kernel_rfl) (by as_aux_lemma => kernel_rfl) rfl (by rfl) (fun _ _ _ h => h) hHeld (fun _ hw' => rfl) ?_
                  simp only [List.setIfInBounds_toArray, List.set_cons_zero, List.set_cons_succ]
                  refine wpAnyH_done (by as_aux_lemma => kernel_rfl) ?_ _
                  refine NoPanic.normal ?_
                  have HE := hid hHeld
                  clear hHeld
                  go_wp2_with fail
                  exact ⟨⟨j + 1, (fun i => if i = k then (s k).freeS nn else s i), by omega, by go_num, HE⟩, by simp [intOf]; omega⟩
              · have q3' : (kd == 3) = false := beq_false_of_ne q3
                clear q3
                by_cases q4 : kd = 4
                · as_aux_lemma =>
                    subst q4
                    obtain ⟨er, her⟩ : ∃ er, (s k).laterE nn = er := ⟨_, rfl⟩
                    have CS := hid fun w h => later_any (s := s k) (lo := sl k) (hi := sh k) (p := P k) nn hnn w h
                    have CQ := hid fun w h => rlater_any (s := s k) (lo := ql k) (hi := qh k) (p := Q k) nn w h
                    rw [her] at CS CQ
                    clear her
                    go_upto_region 33 with (fail)
                    refine wp_region_noPanic ?_
                    refine wp_region_held_drew (S := fun w' => w'.cell? ⟨S, k, none⟩ = some (.pointer (some ⟨P k, 0, none⟩)) ∧ w'.heap[u]? = some (.cells #[.int .i64 4, .int .i64 on, .int .i64 nn, .slice al L cl] 50 (0, 0))) (by as_aux_lemma => kernel_rfl) ⟨HI3.out.cS hk', HQq.out⟩ (fun hHeld => ?_)
                    refine takeVal 0 151 (.int .i64 (k : Int)) rfl (by as_aux_lemma => kernel_rfl) (by as_aux_lemma => kernel_rfl) (by as_aux_lemma => kernel_rfl) rfl (by rfl) (fun _ _ _ h => h) hHeld (fun _ hw' => rfl) ?_
                    simp only [List.setIfInBounds_toArray, List.set_cons_zero, List.set_cons_succ]
                    refine takeVal 1 152 (.pointer (some ⟨S, k, none⟩)) rfl (by as_aux_lemma => kernel_rfl) (by as_aux_lemma => kernel_rfl) (by as_aux_lemma => kernel_rfl) rfl (by rfl) (fun _ _ _ h => h) hHeld (fun _ hw' => by go_simp) ?_
                    simp only [List.setIfInBounds_toArray, List.set_cons_zero, List.set_cons_succ]
                    refine takeVal 2 153 (.pointer (some ⟨P k, 0, none⟩)) rfl (by as_aux_lemma => kernel_rfl) (by as_aux_lemma => kernel_rfl) (by as_aux_lemma => kernel_rfl) rfl (by rfl) (fun _ _ _ h => h) hHeld (fun _ hw' => by have cc := hw'.1; go_simp) ?_
                    simp only [List.setIfInBounds_toArray, List.set_cons_zero, List.set_cons_succ]
                    refine takeVal 3 154 (.pointer (some ⟨u, 2, none⟩)) rfl (by as_aux_lemma => kernel_rfl) (by as_aux_lemma => kernel_rfl) (by as_aux_lemma => kernel_rfl) rfl (by rfl) (fun _ _ _ h => h) hHeld (fun _ hw' => by go_simp) ?_
                    simp only [List.setIfInBounds_toArray, List.set_cons_zero, List.set_cons_succ]
                    refine takeVal 4 155 (.int .i64 nn) rfl (by as_aux_lemma => kernel_rfl) (by as_aux_lemma => kernel_rfl) (by as_aux_lemma => kernel_rfl) rfl (by rfl) (fun _ _ _ h => h) hHeld (fun _ hw' => by have cc := (cells4q hw'.2).2.2.1; go_simp) ?_
                    simp only [List.setIfInBounds_toArray, List.set_cons_zero, List.set_cons_succ]
                    refine step1 5 (by as_aux_lemma => kernel_rfl) ?_
                    refine stCall 5 156 23 #[.pointer (some ⟨P k, 0, none⟩), .int .i64 nn] _ rfl rfl (by rfl) (by go_simp) (CS.out _ ((HI3.out.drewN 1).ss k hk')) ?_
                    rintro e w5 ⟨rfl, h5, c5⟩
                    have H5 := hid ((HI3.out.drewN 1).half hk' h5 c5)
                    have HQ5 := hid (c5.new HQq.out (HU.out k hk').1)
                    clear h5 c5
                    replace hHeld := And.intro (H5.out.cS hk') HQ5.out
                    refine ⟨_, rfl, hHeld, ?_⟩
                    simp only [List.setIfInBounds_toArray, List.set_cons_zero, List.set_cons_succ]
                    refine takeVal 6 29 (.int .i64 er) rfl (by as_aux_lemma => kernel_rfl) (by as_aux_lemma => kernel_rfl) (by as_aux_lemma => kernel_rfl) rfl (by rfl) (fun _ _ _ h => h) hHeld (fun _ hw' => rfl) ?_
                    simp only [List.setIfInBounds_toArray, List.set_cons_zero, List.set_cons_succ]
                    refine wpAnyH_done (by as_aux_lemma => kernel_rfl) ?_ _
                    refine NoPanic.normal ?_
                    clear hHeld HI3 HQq
                    go_upto_region 34 with (fail)
                    refine wp_region_noPanic ?_
                    refine wp_region_held_drew (S := fun w' => w'.cell? ⟨R, k, none⟩ = some (.pointer (some ⟨Q k, 0, none⟩)) ∧ w'.heap[u]? = some (.cells #[.int .i64 4, .int .i64 on, .int .i64 nn, .slice al L cl] 50 (0, 0))) (by as_aux_lemma => kernel_rfl) ⟨H5.out.cR hk', HQ5.out⟩ (fun hHeld => ?_)
                    refine takeVal 0 157 (.int .i64 er) rfl (by as_aux_lemma => kernel_rfl) (by as_aux_lemma => kernel_rfl) (by as_aux_lemma => kernel_rfl) rfl (by rfl) (fun _ _ _ h => h) hHeld (fun _ hw' => rfl) ?_
                    simp only [List.setIfInBounds_toArray, List.set_cons_zero, List.set_cons_succ]
                    refine takeVal 1 158 (.int .i64 (k : Int)) rfl (by as_aux_lemma => kernel_rfl) (by as_aux_lemma => kernel_rfl) (by as_aux_lemma => kernel_rfl) rfl (by rfl) (fun _ _ _ h => h) hHeld (fun _ hw' => rfl) ?_
                    simp only [List.setIfInBounds_toArray, List.set_cons_zero, List.set_cons_succ]
                    refine takeVal 2 159 (.pointer (some ⟨R, k, none⟩)) rfl (by as_aux_lemma => kernel_rfl) (by as_aux_lemma => kernel_rfl) (by as_aux_lemma => kernel_rfl) rfl (by rfl) (fun _ _ _ h => h) hHeld (fun _ hw' => by go_simp) ?_
                    simp only [List.setIfInBounds_toArray, List.set_cons_zero, List.set_cons_succ]
                    refine takeVal 3 160 (.pointer (some ⟨Q k, 0, none⟩)) rfl (by as_aux_lemma => kernel_rfl) (by as_aux_lemma => kernel_rfl) (by as_aux_lemma => kernel_rfl) rfl (by rfl) (fun _ _ _ h => h) hHeld (fun _ hw' => by have cc := hw'.1; go_simp) ?_
                    simp only [List.setIfInBounds_toArray, List.set_cons_zero, List.set_cons_succ]
                    refine takeVal 4 161 (.pointer (some ⟨u, 2, none⟩)) rfl (by as_aux_lemma => kernel_rfl) (by as_aux_lemma => kernel_rfl) (by as_aux_lemma => kernel_rfl) rfl (by rfl) (fun _ _ _ h => h) hHeld (fun _ hw' => by go_simp) ?_
                    simp only [List.setIfInBounds_toArray, List.set_cons_zero, List.set_cons_succ]
                    refine takeVal 5 162 (.int .i64 nn) rfl (by as_aux_lemma => kernel_rfl) (by as_aux_lemma => kernel_rfl) (by as_aux_lemma => kernel_rfl) rfl (by rfl) (fun _ _ _ h => h) hHeld (fun _ hw' => by have cc := (cells4q hw'.2).2.2.1; go_simp) ?_
                    simp only [List.setIfInBounds_toArray, List.set_cons_zero, List.set_cons_succ]
                    refine step1 6 (by as_aux_lemma => kernel_rfl) ?_
                    refine stCall 6 163 24 #[.pointer (some ⟨Q k, 0, none⟩), .int .i64 nn] _ rfl rfl (by rfl) (by go_simp) (CQ.out _ ((H5.out.drewN 1).qq k hk')) ?_
                    rintro e w6 ⟨rfl, h6, c6⟩
                    have H6 := hid ((H5.out.drewN 1).full hk' h6 c6)
                    have HQ6 := hid (c6.new HQ5.out (HU.out k hk').2)
                    clear h6 c6
                    replace hHeld := And.intro (H6.out.cR hk') HQ6.out
                    refine ⟨_, rfl, hHeld, ?_⟩
                    simp only [List.setIfInBounds_toArray, List.set_cons_zero, List.set_cons_succ]
                    refine takeVal 7 164 (.bool true) rfl (by as_aux_lemma => kernel_rfl) (by as_aux_lemma => kernel_rfl) (by as_aux_lemma => kernel_rfl) rfl (by rfl) (fun _ _ _ h => h) hHeld (fun _ hw' => by go_simp) ?_
                    simp only [List.setIfInBounds_toArray, List.set_cons_zero, List.set_cons_succ]
                    refine takeVal 8 19 (.bool true) rfl (by as_aux_lemma => kernel_rfl) (by as_aux_lemma => kernel_rfl) (by as_aux_lemma => kernel_rfl) rfl (by rfl) (fun _ _ _ h => h) hHeld (fun _ hw' => rfl) ?_
                    simp only [List.setIfInBounds_toArray, List.set_cons_zero, List.set_cons_succ]
                    refine wpAnyH_done (by as_aux_lemma => kernel_rfl) ?_ _
                    refine NoPanic.normal ?_
                    clear hHeld H5 HQ5 HQ6
                    go_upto_region 44 with (fail)
                    refine wp_region_noPanic ?_
                    refine wp_region_held_drew (S := fun w' => Quad w w' X S R a b P Q sl sh ql qh ((fun i => if i = k then (s k).laterS nn else s i))) (by as_aux_lemma => kernel_rfl) (H6.out.drewN 1) (fun hHeld => ?_)
                    refine takeVal 0 212 (.bool true) rfl (by as_aux_lemma => kernel_rfl) (by as_aux_lemma => kernel_rfl) (by as_aux_lemma => kernel_rfl) rfl (by rfl) (fun _ _ _ h => h) hHeld (fun _ hw' => rfl) ?_
                    simp only [List.setIfInBounds_toArray, List.set_cons_zero, List.set_cons_succ]
                    refine takeVal 1 213 (.bool false) rfl (by as_aux_lemma => kernel_rfl) (by as_aux_lemma => kernel_rfl) (by as_aux_lemma => kernel_rfl) rfl (by rfl) (fun _ _ _ h => h) hHeld (fun _ hw' => by go_simp) ?_
                    simp only [List.setIfInBounds_toArray, List.set_cons_zero, List.set_cons_succ]
                    refine takeVal 2 214 (.bool false) rfl (by as_aux_lemma => kernel_rfl) (by as_aux_lemma => kernel_rfl) (by as_aux_lemma => kernel_rfl) rfl (by rfl) (fun _ _ _ h => h) hHeld (fun _ hw' => rfl) ?_
                    simp only [List.setIfInBounds_toArray, List.set_cons_zero, List.set_cons_succ]
                    refine takeVal 3 215 (.pointer (some ⟨S, 0, none⟩)) rfl (by as_aux_lemma => kernel_rfl) (by as_aux_lemma => kernel_rfl) (by as_aux_lemma => kernel_rfl) rfl (by rfl) (fun _ _ _ h => h) hHeld (fun _ hw' => by go_simp) ?_
                    simp only [List.setIfInBounds_toArray, List.set_cons_zero, List.set_cons_succ]
                    refine takeVal 4 216 (.pointer (some ⟨P 0, 0, none⟩)) rfl (by as_aux_lemma => kernel_rfl) (by as_aux_lemma => kernel_rfl) (by as_aux_lemma => kernel_rfl) rfl (by rfl) (fun _ _ _ h => h) hHeld (fun _ hw' => by have cc := hw'.cS (k := 0) (by decide); go_simp) ?_
                    simp only [List.setIfInBounds_toArray, List.set_cons_zero, List.set_cons_succ]
                    refine takeVal 6 218 (.pointer (some ⟨R, 0, none⟩)) rfl (by as_aux_lemma => kernel_rfl) (by as_aux_lemma => kernel_rfl) (by as_aux_lemma => kernel_rfl) rfl (by rfl) (fun _ _ _ h => h) hHeld (fun _ hw' => by go_simp) ?_
                    simp only [List.setIfInBounds_toArray, List.set_cons_zero, List.set_cons_succ]
                    refine takeVal 7 219 (.pointer (some ⟨Q 0, 0, none⟩)) rfl (by as_aux_lemma => kernel_rfl) (by as_aux_lemma => kernel_rfl) (by as_aux_lemma => kernel_rfl) rfl (by rfl) (fun _ _ _ h => h) hHeld (fun _ hw' => by have cc := hw'.cR (k := 0) (by decide); go_simp) ?_
                    simp only [List.setIfInBounds_toArray, List.set_cons_zero, List.set_cons_succ]
                    refine step1 5 (by as_aux_lemma => kernel_rfl) ?_
                    refine stCall 5 217 13 #[.pointer (some ⟨P 0, 0, none⟩)] _ rfl rfl (by rfl) (by go_simp) (room_anyV _ (hHeld.ss 0 (by decide))) ?_
                    rintro e wa ⟨rfl, bwa⟩
                    replace hHeld := hHeld.call bwa
                    refine ⟨_, rfl, hHeld, ?_⟩
                    simp only [List.setIfInBounds_toArray, List.set_cons_zero, List.set_cons_succ]
                    refine step1 8 (by as_aux_lemma => kernel_rfl) ?_
                    refine stCall 8 220 14 #[.pointer (some ⟨Q 0, 0, none⟩)] _ rfl rfl (by rfl) (by go_simp) (rroom_anyV _ (hHeld.qq 0 (by decide))) ?_
                    rintro e wb ⟨rfl, bwb⟩
                    replace hHeld := hHeld.call bwb
                    refine ⟨_, rfl, hHeld, ?_⟩
                    simp only [List.setIfInBounds_toArray, List.set_cons_zero, List.set_cons_succ]
                    refine takeVal 9 221 (.bool false) rfl (by as_aux_lemma => kernel_rfl) (by as_aux_lemma => kernel_rfl) (by as_aux_lemma => kernel_rfl) rfl (by rfl) (fun _ _ _ h => h) hHeld (fun _ hw' => by go_simp) ?_
                    simp only [List.setIfInBounds_toArray, List.set_cons_zero, List.set_cons_succ]
                    refine takeVal 10 222 (.bool false) rfl (by as_aux_lemma => kernel_rfl) (by as_aux_lemma => kernel_rfl) (by as_aux_lemma => kernel_rfl) rfl (by rfl) (fun _ _ _ h => h) hHeld (fun _ hw' => rfl) ?_
                    simp only [List.setIfInBounds_toArray, List.set_cons_zero, List.set_cons_succ]
                    refine takeVal 11 223 (.bool false) rfl (by as_aux_lemma => kernel_rfl) (by as_aux_lemma => kernel_rfl) (by as_aux_lemma => kernel_rfl) rfl (by rfl) (fun _ _ _ h => h) hHeld (fun _ hw' => rfl) ?_
                    simp only [List.setIfInBounds_toArray, List.set_cons_zero, List.set_cons_succ]
                    refine takeVal 12 224 (.pointer (some ⟨S, 1, none⟩)) rfl (by as_aux_lemma => kernel_rfl) (by as_aux_lemma => kernel_rfl) (by as_aux_lemma => kernel_rfl) rfl (by rfl) (fun _ _ _ h => h) hHeld (fun _ hw' => by go_simp) ?_
                    simp only [List.setIfInBounds_toArray, List.set_cons_zero, List.set_cons_succ]
                    refine takeVal 13 225 (.pointer (some ⟨P 1, 0, none⟩)) rfl (by as_aux_lemma => kernel_rfl) (by as_aux_lemma => kernel_rfl) (by as_aux_lemma => kernel_rfl) rfl (by rfl) (fun _ _ _ h => h) hHeld (fun _ hw' => by have cc := hw'.cS (k := 1) (by decide); go_simp) ?_
                    simp only [List.setIfInBounds_toArray, List.set_cons_zero, List.set_cons_succ]
                    refine takeVal 15 227 (.pointer (some ⟨R, 1, none⟩)) rfl (by as_aux_lemma => kernel_rfl) (by as_aux_lemma => kernel_rfl) (by as_aux_lemma => kernel_rfl) rfl (by rfl) (fun _ _ _ h => h) hHeld (fun _ hw' => by go_simp) ?_
                    simp only [List.setIfInBounds_toArray, List.set_cons_zero, List.set_cons_succ]
                    refine takeVal 16 228 (.pointer (some ⟨Q 1, 0, none⟩)) rfl (by as_aux_lemma => kernel_rfl) (by as_aux_lemma => kernel_rfl) (by as_aux_lemma => kernel_rfl) rfl (by rfl) (fun _ _ _ h => h) hHeld (fun _ hw' => by have cc := hw'.cR (k := 1) (by decide); go_simp) ?_
                    simp only [List.setIfInBounds_toArray, List.set_cons_zero, List.set_cons_succ]
                    refine step1 14 (by as_aux_lemma => kernel_rfl) ?_
                    refine stCall 14 226 13 #[.pointer (some ⟨P 1, 0, none⟩)] _ rfl rfl (by rfl) (by go_simp) (room_anyV _ (hHeld.ss 1 (by decide))) ?_
                    rintro e wc ⟨rfl, bwc⟩
                    replace hHeld := hHeld.call bwc
                    refine ⟨_, rfl, hHeld, ?_⟩
                    simp only [List.setIfInBounds_toArray, List.set_cons_zero, List.set_cons_succ]
                    refine step1 17 (by as_aux_lemma => kernel_rfl) ?_
                    refine stCall 17 229 14 #[.pointer (some ⟨Q 1, 0, none⟩)] _ rfl rfl (by rfl) (by go_simp) (rroom_anyV _ (hHeld.qq 1 (by decide))) ?_
                    rintro e wd ⟨rfl, bwd⟩
                    replace hHeld := hHeld.call bwd
                    refine ⟨_, rfl, hHeld, ?_⟩
                    simp only [List.setIfInBounds_toArray, List.set_cons_zero, List.set_cons_succ]
                    refine takeVal 18 230 (.bool false) rfl (by as_aux_lemma => kernel_rfl) (by as_aux_lemma => kernel_rfl) (by as_aux_lemma => kernel_rfl) rfl (by rfl) (fun _ _ _ h => h) hHeld (fun _ hw' => by go_simp) ?_
                    simp only [List.setIfInBounds_toArray, List.set_cons_zero, List.set_cons_succ]
                    refine takeVal 19 231 (.bool false) rfl (by as_aux_lemma => kernel_rfl) (by as_aux_lemma => kernel_rfl) (by as_aux_lemma => kernel_rfl) rfl (by rfl) (fun _ _ _ h => h) hHeld (fun _ hw' => rfl) ?_
                    simp only [List.setIfInBounds_toArray, List.set_cons_zero, List.set_cons_succ]
                    refine wpAnyH_done (by as_aux_lemma => kernel_rfl) ?_ _
                    refine NoPanic.normal ?_
                    have HE := hid hHeld
                    clear hHeld
                    go_wp2_with fail
                    exact ⟨⟨j + 1, (fun i => if i = k then (s k).laterS nn else s i), by omega, by go_num, HE⟩, by simp [intOf]; omega⟩
                · have q4' : (kd == 4) = false := beq_false_of_ne q4
                  clear q4
                  by_cases q5 : kd = 5
                  · as_aux_lemma =>
                      subst q5
                      obtain ⟨er, her⟩ : ∃ er, (s k).landE ll = er := ⟨_, rfl⟩
                      have hc3 := (cells4q HQq.out).2.2.2
                      have HLn := hid (lent_any ll L hL al cl w3 hll (hid (hAl.out.call HI3.out.be)))
                      go_upto_region 37 with (go_at_call 6; refine HLn.out.mono ?_; rintro e w5 ⟨rfl, g5, b5⟩; have G5 := hid g5; have B5 := hid b5; clear g5 b5)
                      have I5 := hid (HI3.out.call B5.out)
                      have Q5 := hid ((Chg.of_below B5.out No).keep HQq.out (fun e => e))
                      have hug := slt HQq.out
                      have HGG : Hid (∀ i, i < 2 → sh i ≤ w3.heap.size ∧ qh i ≤ w3.heap.size) := fun i hi => by have := HU.out i hi; omega
                      have HGX : Hid (X < w3.heap.size ∧ S < w3.heap.size ∧ R < w3.heap.size ∧ w.heap.size ≤ w3.heap.size ∧ u ≠ w3.heap.size) := ⟨slt HI3.out.x, slt HI3.out.sa, slt HI3.out.ra, HI3.out.be.size, by omega⟩
                      clear hc3 HLn HI3 HQq B5 hug
                      generalize w3.heap.size = g at *
                      have CS := hid fun w h hx => landed_any (s := s k) (lo := sl k) (hi := sh k) (p := P k) ll (some ⟨g, 0, none⟩) L (L + 20) w h hL (by omega) hx hl64 (hid (fun b' o' e r => by cases e; have := r.2; have := (HGG.out k hk').1; omega))
                      rw [her] at CS
                      refine wp_region_noPanic ?_
                      refine wp_region_held_drew (S := fun w' => w'.cell? ⟨S, k, none⟩ = some (.pointer (some ⟨P k, 0, none⟩)) ∧ w'.heap[u]? = some (.cells #[.int .i64 5, .int .i64 on, .int .i64 nn, .slice al L cl] 50 (0, 0))) (by as_aux_lemma => kernel_rfl) ⟨I5.out.cS hk', Q5.out⟩ (fun hHeld => ?_)
                      refine takeVal 0 170 (.int .i64 (k : Int)) rfl (by as_aux_lemma => kernel_rfl) (by as_aux_lemma => kernel_rfl) (by as_aux_lemma => kernel_rfl) rfl (by rfl) (fun _ _ _ h => h) hHeld (fun _ hw' => rfl) ?_
                      simp only [List.setIfInBounds_toArray, List.set_cons_zero, List.set_cons_succ]
                      refine takeVal 1 171 (.pointer (some ⟨S, k, none⟩)) rfl (by as_aux_lemma => kernel_rfl) (by as_aux_lemma => kernel_rfl) (by as_aux_lemma => kernel_rfl) rfl (by rfl) (fun _ _ _ h => h) hHeld (fun _ hw' => by go_simp) ?_
                      simp only [List.setIfInBounds_toArray, List.set_cons_zero, List.set_cons_succ]
                      refine takeVal 2 172 (.pointer (some ⟨P k, 0, none⟩)) rfl (by as_aux_lemma => kernel_rfl) (by as_aux_lemma => kernel_rfl) (by as_aux_lemma => kernel_rfl) rfl (by rfl) (fun _ _ _ h => h) hHeld (fun _ hw' => by have cc := hw'.1; go_simp) ?_
                      simp only [List.setIfInBounds_toArray, List.set_cons_zero, List.set_cons_succ]
                      refine takeVal 3 173 (.slice (some ⟨g, 0, none⟩) (L + 20) (L + 20)) rfl (by as_aux_lemma => kernel_rfl) (by as_aux_lemma => kernel_rfl) (by as_aux_lemma => kernel_rfl) rfl (by rfl) (fun _ _ _ h => h) hHeld (fun _ hw' => rfl) ?_
                      simp only [List.setIfInBounds_toArray, List.set_cons_zero, List.set_cons_succ]
                      refine takeVal 4 174 (.pointer (some ⟨u, 3, none⟩)) rfl (by as_aux_lemma => kernel_rfl) (by as_aux_lemma => kernel_rfl) (by as_aux_lemma => kernel_rfl) rfl (by rfl) (fun _ _ _ h => h) hHeld (fun _ hw' => by go_simp) ?_
                      simp only [List.setIfInBounds_toArray, List.set_cons_zero, List.set_cons_succ]
                      refine takeVal 5 175 (.slice al L cl) rfl (by as_aux_lemma => kernel_rfl) (by as_aux_lemma => kernel_rfl) (by as_aux_lemma => kernel_rfl) rfl (by rfl) (fun _ _ _ h => h) hHeld (fun _ hw' => by have cc := (cells4q hw'.2).2.2.2; go_simp) ?_
                      simp only [List.setIfInBounds_toArray, List.set_cons_zero, List.set_cons_succ]
                      refine takeVal 6 176 (.int .i64 (L : Int)) rfl (by as_aux_lemma => kernel_rfl) (by as_aux_lemma => kernel_rfl) (by as_aux_lemma => kernel_rfl) rfl (by rfl) (fun _ _ _ h => h) hHeld (fun _ hw' => by go_simp) ?_
                      simp only [List.setIfInBounds_toArray, List.set_cons_zero, List.set_cons_succ]
                      refine takeVal 7 177 (.slice (some ⟨g, 0, none⟩) L (L + 20)) rfl (by as_aux_lemma => kernel_rfl) (by as_aux_lemma => kernel_rfl) (by as_aux_lemma => kernel_rfl) rfl (by rfl) (fun _ _ _ h => h) hHeld (fun _ hw' => by go_simp; intro hh; omega) ?_
                      simp only [List.setIfInBounds_toArray, List.set_cons_zero, List.set_cons_succ]
                      refine step1 8 (by as_aux_lemma => kernel_rfl) ?_
                      refine stCall 8 178 25 #[.pointer (some ⟨P k, 0, none⟩), .slice (some ⟨g, 0, none⟩) L (L + 20)] _ rfl rfl (by rfl) (by go_simp) (CS.out _ ((I5.out.drewN 1).ss k hk') (hid (lent_ints8 G5.out))) ?_
                      rintro e w6 ⟨rfl, h6, c6⟩
                      have H6 := hid ((I5.out.drewN 1).half hk' h6 c6)
                      have HQ6 := hid (c6.new Q5.out (HU.out k hk').1)
                      have HG6 := hid (c6.new G5.out (HGG.out k hk').1)
                      clear h6 c6
                      replace hHeld := And.intro (H6.out.cS hk') HQ6.out
                      refine ⟨_, rfl, hHeld, ?_⟩
                      simp only [List.setIfInBounds_toArray, List.set_cons_zero, List.set_cons_succ]
                      refine takeVal 9 31 (.int .i64 er) rfl (by as_aux_lemma => kernel_rfl) (by as_aux_lemma => kernel_rfl) (by as_aux_lemma => kernel_rfl) rfl (by rfl) (fun _ _ _ h => h) hHeld (fun _ hw' => rfl) ?_
                      simp only [List.setIfInBounds_toArray, List.set_cons_zero, List.set_cons_succ]
                      refine wpAnyH_done (by as_aux_lemma => kernel_rfl) ?_ _
                      refine NoPanic.normal ?_
                      clear hHeld I5 Q5 G5 CS
                      have hc3 := (cells4q HQ6.out).2.2.2
                      have HKp := hid (kept_any ll L hL al cl g w6 hll (hid (hAl.out.call H6.out.be)) HG6)
                      go_upto_region 39 with (go_at_call 8; refine HKp.out.mono ?_; rintro e w7 ⟨rfl, rfl⟩)
                      have HSp := hid (spoil_any (lentL ll) (L + 20) g (hid (by rw [lentL_len, hL.out])) w6 (by omega) HG6)
                      go_upto_region 40 with (go_at_call 10; refine HSp.out.mono ?_; rintro e w7 ⟨rfl, c7⟩; have H7 := hid (H6.out.spoil hk' c7 HGG.out ⟨HGX.out.1, HGX.out.2.1, HGX.out.2.2.1, HGX.out.2.2.2.1⟩); have HQ7 := hid (c7.keep HQ6.out HGX.out.2.2.2.2); clear c7)
                      clear hc3 HKp HSp H6 HQ6 HG6
                      have HOf : Hid (ll = [] ∨ Off al (ql k) (qh k)) := ints_off hAl.out (H7.out.l k hk').2.2.2.2
                      have CQ := hid fun w h hx => rlanded_any (s := s k) (lo := ql k) (hi := qh k) (p := Q k) ll al L cl w h hL (by omega) hx HOf
                      rw [her] at CQ
                      clear her
                      refine wp_region_noPanic ?_
                      refine wp_region_held_drew (S := fun w' => w'.cell? ⟨R, k, none⟩ = some (.pointer (some ⟨Q k, 0, none⟩)) ∧ w'.heap[u]? = some (.cells #[.int .i64 5, .int .i64 on, .int .i64 nn, .slice al L cl] 50 (0, 0))) (by as_aux_lemma => kernel_rfl) ⟨H7.out.cR hk', HQ7.out⟩ (fun hHeld => ?_)
                      refine takeVal 0 185 (.bool true) rfl (by as_aux_lemma => kernel_rfl) (by as_aux_lemma => kernel_rfl) (by as_aux_lemma => kernel_rfl) rfl (by rfl) (fun _ _ _ h => h) hHeld (fun _ hw' => rfl) ?_
                      simp only [List.setIfInBounds_toArray, List.set_cons_zero, List.set_cons_succ]
                      refine takeVal 1 186 (.bool true) rfl (by as_aux_lemma => kernel_rfl) (by as_aux_lemma => kernel_rfl) (by as_aux_lemma => kernel_rfl) rfl (by rfl) (fun _ _ _ h => h) hHeld (fun _ hw' => rfl) ?_
                      simp only [List.setIfInBounds_toArray, List.set_cons_zero, List.set_cons_succ]
                      refine takeVal 2 187 (.int .i64 er) rfl (by as_aux_lemma => kernel_rfl) (by as_aux_lemma => kernel_rfl) (by as_aux_lemma => kernel_rfl) rfl (by rfl) (fun _ _ _ h => h) hHeld (fun _ hw' => rfl) ?_
                      simp only [List.setIfInBounds_toArray, List.set_cons_zero, List.set_cons_succ]
                      refine takeVal 3 188 (.int .i64 (k : Int)) rfl (by as_aux_lemma => kernel_rfl) (by as_aux_lemma => kernel_rfl) (by as_aux_lemma => kernel_rfl) rfl (by rfl) (fun _ _ _ h => h) hHeld (fun _ hw' => rfl) ?_
                      simp only [List.setIfInBounds_toArray, List.set_cons_zero, List.set_cons_succ]
                      refine takeVal 4 189 (.pointer (some ⟨R, k, none⟩)) rfl (by as_aux_lemma => kernel_rfl) (by as_aux_lemma => kernel_rfl) (by as_aux_lemma => kernel_rfl) rfl (by rfl) (fun _ _ _ h => h) hHeld (fun _ hw' => by go_simp) ?_
                      simp only [List.setIfInBounds_toArray, List.set_cons_zero, List.set_cons_succ]
                      refine takeVal 5 190 (.pointer (some ⟨Q k, 0, none⟩)) rfl (by as_aux_lemma => kernel_rfl) (by as_aux_lemma => kernel_rfl) (by as_aux_lemma => kernel_rfl) rfl (by rfl) (fun _ _ _ h => h) hHeld (fun _ hw' => by have cc := hw'.1; go_simp) ?_
                      simp only [List.setIfInBounds_toArray, List.set_cons_zero, List.set_cons_succ]
                      refine takeVal 6 191 (.pointer (some ⟨u, 3, none⟩)) rfl (by as_aux_lemma => kernel_rfl) (by as_aux_lemma => kernel_rfl) (by as_aux_lemma => kernel_rfl) rfl (by rfl) (fun _ _ _ h => h) hHeld (fun _ hw' => by go_simp) ?_
                      simp only [List.setIfInBounds_toArray, List.set_cons_zero, List.set_cons_succ]
                      refine takeVal 7 192 (.slice al L cl) rfl (by as_aux_lemma => kernel_rfl) (by as_aux_lemma => kernel_rfl) (by as_aux_lemma => kernel_rfl) rfl (by rfl) (fun _ _ _ h => h) hHeld (fun _ hw' => by have cc := (cells4q hw'.2).2.2.2; go_simp) ?_
                      simp only [List.setIfInBounds_toArray, List.set_cons_zero, List.set_cons_succ]
                      refine step1 8 (by as_aux_lemma => kernel_rfl) ?_
                      refine stCall 8 193 26 #[.pointer (some ⟨Q k, 0, none⟩), .slice al L cl] _ rfl rfl (by rfl) (by go_simp) (CQ.out _ ((H7.out.drewN 1).qq k hk') (hid (hAl.out.call (H7.out.drewN 1).be))) ?_
                      rintro e w8 ⟨rfl, h8, c8⟩
                      have H8 := hid ((H7.out.drewN 1).full hk' h8 c8)
                      have HQ8 := hid (c8.new HQ7.out (HU.out k hk').2)
                      clear h8 c8
                      replace hHeld := And.intro (H8.out.cR hk') HQ8.out
                      refine ⟨_, rfl, hHeld, ?_⟩
                      simp only [List.setIfInBounds_toArray, List.set_cons_zero, List.set_cons_succ]
                      refine takeVal 9 194 (.bool true) rfl (by as_aux_lemma => kernel_rfl) (by as_aux_lemma => kernel_rfl) (by as_aux_lemma => kernel_rfl) rfl (by rfl) (fun _ _ _ h => h) hHeld (fun _ hw' => by go_simp) ?_
                      simp only [List.setIfInBounds_toArray, List.set_cons_zero, List.set_cons_succ]
                      refine takeVal 10 195 (.bool true) rfl (by as_aux_lemma => kernel_rfl) (by as_aux_lemma => kernel_rfl) (by as_aux_lemma => kernel_rfl) rfl (by rfl) (fun _ _ _ h => h) hHeld (fun _ hw' => rfl) ?_
                      simp only [List.setIfInBounds_toArray, List.set_cons_zero, List.set_cons_succ]
                      refine takeVal 11 19 (.bool true) rfl (by as_aux_lemma => kernel_rfl) (by as_aux_lemma => kernel_rfl) (by as_aux_lemma => kernel_rfl) rfl (by rfl) (fun _ _ _ h => h) hHeld (fun _ hw' => rfl) ?_
                      simp only [List.setIfInBounds_toArray, List.set_cons_zero, List.set_cons_succ]
                      refine wpAnyH_done (by as_aux_lemma => kernel_rfl) ?_ _
                      refine NoPanic.normal ?_
                      clear hHeld H7 HQ7 HQ8 CQ
                      go_upto_region 44 with (fail)
                      refine wp_region_noPanic ?_
                      refine wp_region_held_drew (S := fun w' => Quad w w' X S R a b P Q sl sh ql qh ((fun i => if i = k then (s k).landS ll else s i))) (by as_aux_lemma => kernel_rfl) (H8.out.drewN 1) (fun hHeld => ?_)
                      refine takeVal 0 212 (.bool true) rfl (by as_aux_lemma => kernel_rfl) (by as_aux_lemma => kernel_rfl) (by as_aux_lemma => kernel_rfl) rfl (by rfl) (fun _ _ _ h => h) hHeld (fun _ hw' => rfl) ?_
                      simp only [List.setIfInBounds_toArray, List.set_cons_zero, List.set_cons_succ]
                      refine takeVal 1 213 (.bool false) rfl (by as_aux_lemma => kernel_rfl) (by as_aux_lemma => kernel_rfl) (by as_aux_lemma => kernel_rfl) rfl (by rfl) (fun _ _ _ h => h) hHeld (fun _ hw' => by go_simp) ?_
                      simp only [List.setIfInBounds_toArray, List.set_cons_zero, List.set_cons_succ]
                      refine takeVal 2 214 (.bool false) rfl (by as_aux_lemma => kernel_rfl) (by as_aux_lemma => kernel_rfl) (by as_aux_lemma => kernel_rfl) rfl (by rfl) (fun _ _ _ h => h) hHeld (fun _ hw' => rfl) ?_
                      simp only [List.setIfInBounds_toArray, List.set_cons_zero, List.set_cons_succ]
                      refine takeVal 3 215 (.pointer (some ⟨S, 0, none⟩)) rfl (by as_aux_lemma => kernel_rfl) (by as_aux_lemma => kernel_rfl) (by as_aux_lemma => kernel_rfl) rfl (by rfl) (fun _ _ _ h => h) hHeld (fun _ hw' => by go_simp) ?_
                      simp only [List.setIfInBounds_toArray, List.set_cons_zero, List.set_cons_succ]
                      refine takeVal 4 216 (.pointer (some ⟨P 0, 0, none⟩)) rfl (by as_aux_lemma => kernel_rfl) (by as_aux_lemma => kernel_rfl) (by as_aux_lemma => kernel_rfl) rfl (by rfl) (fun _ _ _ h => h) hHeld (fun _ hw' => by have cc := hw'.cS (k := 0) (by decide); go_simp) ?_
                      simp only [List.setIfInBounds_toArray, List.set_cons_zero, List.set_cons_succ]
                      refine takeVal 6 218 (.pointer (some ⟨R, 0, none⟩)) rfl (by as_aux_lemma => kernel_rfl) (by as_aux_lemma => kernel_rfl) (by as_aux_lemma => kernel_rfl) rfl (by rfl) (fun _ _ _ h => h) hHeld (fun _ hw' => by go_simp) ?_
                      simp only [List.setIfInBounds_toArray, List.set_cons_zero, List.set_cons_succ]
                      refine takeVal 7 219 (.pointer (some ⟨Q 0, 0, none⟩)) rfl (by as_aux_lemma => kernel_rfl) (by as_aux_lemma => kernel_rfl) (by as_aux_lemma => kernel_rfl) rfl (by rfl) (fun _ _ _ h => h) hHeld (fun _ hw' => by have cc := hw'.cR (k := 0) (by decide); go_simp) ?_
                      simp only [List.setIfInBounds_toArray, List.set_cons_zero, List.set_cons_succ]
                      refine step1 5 (by as_aux_lemma => kernel_rfl) ?_
                      refine stCall 5 217 13 #[.pointer (some ⟨P 0, 0, none⟩)] _ rfl rfl (by rfl) (by go_simp) (room_anyV _ (hHeld.ss 0 (by decide))) ?_
                      rintro e wa ⟨rfl, bwa⟩
                      replace hHeld := hHeld.call bwa
                      refine ⟨_, rfl, hHeld, ?_⟩
                      simp only [List.setIfInBounds_toArray, List.set_cons_zero, List.set_cons_succ]
                      refine step1 8 (by as_aux_lemma => kernel_rfl) ?_
                      refine stCall 8 220 14 #[.pointer (some ⟨Q 0, 0, none⟩)] _ rfl rfl (by rfl) (by go_simp) (rroom_anyV _ (hHeld.qq 0 (by decide))) ?_
                      rintro e wb ⟨rfl, bwb⟩
                      replace hHeld := hHeld.call bwb
                      refine ⟨_, rfl, hHeld, ?_⟩
                      simp only [List.setIfInBounds_toArray, List.set_cons_zero, List.set_cons_succ]
                      refine takeVal 9 221 (.bool false) rfl (by as_aux_lemma => kernel_rfl) (by as_aux_lemma => kernel_rfl) (by as_aux_lemma => kernel_rfl) rfl (by rfl) (fun _ _ _ h => h) hHeld (fun _ hw' => by go_simp) ?_
                      simp only [List.setIfInBounds_toArray, List.set_cons_zero, List.set_cons_succ]
                      refine takeVal 10 222 (.bool false) rfl (by as_aux_lemma => kernel_rfl) (by as_aux_lemma => kernel_rfl) (by as_aux_lemma => kernel_rfl) rfl (by rfl) (fun _ _ _ h => h) hHeld (fun _ hw' => rfl) ?_
                      simp only [List.setIfInBounds_toArray, List.set_cons_zero, List.set_cons_succ]
                      refine takeVal 11 223 (.bool false) rfl (by as_aux_lemma => kernel_rfl) (by as_aux_lemma => kernel_rfl) (by as_aux_lemma => kernel_rfl) rfl (by rfl) (fun _ _ _ h => h) hHeld (fun _ hw' => rfl) ?_
                      simp only [List.setIfInBounds_toArray, List.set_cons_zero, List.set_cons_succ]
                      refine takeVal 12 224 (.pointer (some ⟨S, 1, none⟩)) rfl (by as_aux_lemma => kernel_rfl) (by as_aux_lemma => kernel_rfl) (by as_aux_lemma => kernel_rfl) rfl (by rfl) (fun _ _ _ h => h) hHeld (fun _ hw' => by go_simp) ?_
                      simp only [List.setIfInBounds_toArray, List.set_cons_zero, List.set_cons_succ]
                      refine takeVal 13 225 (.pointer (some ⟨P 1, 0, none⟩)) rfl (by as_aux_lemma => kernel_rfl) (by as_aux_lemma => kernel_rfl) (by as_aux_lemma => kernel_rfl) rfl (by rfl) (fun _ _ _ h => h) hHeld (fun _ hw' => by have cc := hw'.cS (k := 1) (by decide); go_simp) ?_
                      simp only [List.setIfInBounds_toArray, List.set_cons_zero, List.set_cons_succ]
                      refine takeVal 15 227 (.pointer (some ⟨R, 1, none⟩)) rfl (by as_aux_lemma => kernel_rfl) (by as_aux_lemma => kernel_rfl) (by as_aux_lemma => kernel_rfl) rfl (by rfl) (fun _ _ _ h => h) hHeld (fun _ hw' => by go_simp) ?_
                      simp only [List.setIfInBounds_toArray, List.set_cons_zero, List.set_cons_succ]
                      refine takeVal 16 228 (.pointer (some ⟨Q 1, 0, none⟩)) rfl (by as_aux_lemma => kernel_rfl) (by as_aux_lemma => kernel_rfl) (by as_aux_lemma => kernel_rfl) rfl (by rfl) (fun _ _ _ h => h) hHeld (fun _ hw' => by have cc := hw'.cR (k := 1) (by decide); go_simp) ?_
                      simp only [List.setIfInBounds_toArray, List.set_cons_zero, List.set_cons_succ]
                      refine step1 14 (by as_aux_lemma => kernel_rfl) ?_
                      refine stCall 14 226 13 #[.pointer (some ⟨P 1, 0, none⟩)] _ rfl rfl (by rfl) (by go_simp) (room_anyV _ (hHeld.ss 1 (by decide))) ?_
                      rintro e wc ⟨rfl, bwc⟩
                      replace hHeld := hHeld.call bwc
                      refine ⟨_, rfl, hHeld, ?_⟩
                      simp only [List.setIfInBounds_toArray, List.set_cons_zero, List.set_cons_succ]
                      refine step1 17 (by as_aux_lemma => kernel_rfl) ?_
                      refine stCall 17 229 14 #[.pointer (some ⟨Q 1, 0, none⟩)] _ rfl rfl (by rfl) (by go_simp) (rroom_anyV _ (hHeld.qq 1 (by decide))) ?_
                      rintro e wd ⟨rfl, bwd⟩
                      replace hHeld := hHeld.call bwd
                      refine ⟨_, rfl, hHeld, ?_⟩
                      simp only [List.setIfInBounds_toArray, List.set_cons_zero, List.set_cons_succ]
                      refine takeVal 18 230 (.bool false) rfl (by as_aux_lemma => kernel_rfl) (by as_aux_lemma => kernel_rfl) (by as_aux_lemma => kernel_rfl) rfl (by rfl) (fun _ _ _ h => h) hHeld (fun _ hw' => by go_simp) ?_
                      simp only [List.setIfInBounds_toArray, List.set_cons_zero, List.set_cons_succ]
                      refine takeVal 19 231 (.bool false) rfl (by as_aux_lemma => kernel_rfl) (by as_aux_lemma => kernel_rfl) (by as_aux_lemma => kernel_rfl) rfl (by rfl) (fun _ _ _ h => h) hHeld (fun _ hw' => rfl) ?_
                      simp only [List.setIfInBounds_toArray, List.set_cons_zero, List.set_cons_succ]
                      refine wpAnyH_done (by as_aux_lemma => kernel_rfl) ?_ _
                      refine NoPanic.normal ?_
                      have HE := hid hHeld
                      clear hHeld
                      go_wp2_with fail
                      exact ⟨⟨j + 1, (fun i => if i = k then (s k).landS ll else s i), by omega, by go_num, HE⟩, by simp [intOf]; omega⟩
                  · have q5' : (kd == 5) = false := beq_false_of_ne q5
                    clear q5
                    by_cases q6 : kd = 6
                    · as_aux_lemma =>
                        subst q6
                        go_upto_region 42 with (fail)
                        obtain ⟨v, hv⟩ : ∃ v, hasL (s k).I nn = v := ⟨_, rfl⟩
                        have US := hid fun w h => used_any (s := s k) (lo := sl k) (hi := sh k) (p := P k) nn w h
                        have UQ := hid fun w h => rused_any (s := s k) (lo := ql k) (hi := qh k) (p := Q k) nn w h
                        rw [hv] at US UQ
                        clear hv
                        refine wp_region_noPanic ?_
                        refine wp_region_held_drew (S := fun w' => Quad w w' X S R a b P Q sl sh ql qh s ∧ w'.heap[u]? = some (.cells #[.int .i64 6, .int .i64 on, .int .i64 nn, .slice al L cl] 50 (0, 0))) (by as_aux_lemma => kernel_rfl) ⟨HI3.out.drewN 1, HQq.out⟩ (fun hHeld => ?_)
                        refine takeVal 0 198 (.int .i64 (k : Int)) rfl (by as_aux_lemma => kernel_rfl) (by as_aux_lemma => kernel_rfl) (by as_aux_lemma => kernel_rfl) rfl (by rfl) (fun _ _ _ h => h) hHeld (fun _ hw' => rfl) ?_
                        simp only [List.setIfInBounds_toArray, List.set_cons_zero, List.set_cons_succ]
                        refine takeVal 1 199 (.pointer (some ⟨S, k, none⟩)) rfl (by as_aux_lemma => kernel_rfl) (by as_aux_lemma => kernel_rfl) (by as_aux_lemma => kernel_rfl) rfl (by rfl) (fun _ _ _ h => h) hHeld (fun _ hw' => by go_simp) ?_
                        simp only [List.setIfInBounds_toArray, List.set_cons_zero, List.set_cons_succ]
                        refine takeVal 2 200 (.pointer (some ⟨P k, 0, none⟩)) rfl (by as_aux_lemma => kernel_rfl) (by as_aux_lemma => kernel_rfl) (by as_aux_lemma => kernel_rfl) rfl (by rfl) (fun _ _ _ h => h) hHeld (fun _ hw' => by have cc := hw'.1.cS hk'; go_simp) ?_
                        simp only [List.setIfInBounds_toArray, List.set_cons_zero, List.set_cons_succ]
                        refine takeVal 3 201 (.pointer (some ⟨u, 2, none⟩)) rfl (by as_aux_lemma => kernel_rfl) (by as_aux_lemma => kernel_rfl) (by as_aux_lemma => kernel_rfl) rfl (by rfl) (fun _ _ _ h => h) hHeld (fun _ hw' => by go_simp) ?_
                        simp only [List.setIfInBounds_toArray, List.set_cons_zero, List.set_cons_succ]
                        refine takeVal 4 202 (.int .i64 nn) rfl (by as_aux_lemma => kernel_rfl) (by as_aux_lemma => kernel_rfl) (by as_aux_lemma => kernel_rfl) rfl (by rfl) (fun _ _ _ h => h) hHeld (fun _ hw' => by have cc := (cells4q hw'.2).2.2.1; go_simp) ?_
                        simp only [List.setIfInBounds_toArray, List.set_cons_zero, List.set_cons_succ]
                        refine step1 5 (by as_aux_lemma => kernel_rfl) ?_
                        refine stCall 5 203 11 #[.pointer (some ⟨P k, 0, none⟩), .int .i64 nn] _ rfl rfl (by rfl) (by go_simp) (US.out _ (hHeld.1.ss k hk')) ?_
                        rintro e w5 ⟨rfl, rfl⟩
                        refine ⟨_, rfl, hHeld, ?_⟩
                        simp only [List.setIfInBounds_toArray, List.set_cons_zero, List.set_cons_succ]
                        refine takeVal 6 33 (.bool v) rfl (by as_aux_lemma => kernel_rfl) (by as_aux_lemma => kernel_rfl) (by as_aux_lemma => kernel_rfl) rfl (by rfl) (fun _ _ _ h => h) hHeld (fun _ hw' => rfl) ?_
                        simp only [List.setIfInBounds_toArray, List.set_cons_zero, List.set_cons_succ]
                        refine wpAnyH_done (by as_aux_lemma => kernel_rfl) ?_ _
                        refine NoPanic.normal ?_
                        have HA := hid hHeld
                        clear hHeld HI3 HQq
                        go_upto_region 43 with (fail)
                        refine wp_region_noPanic ?_
                        refine wp_region_held_drew (S := fun w' => Quad w w' X S R a b P Q sl sh ql qh s ∧ w'.heap[u]? = some (.cells #[.int .i64 6, .int .i64 on, .int .i64 nn, .slice al L cl] 50 (0, 0))) (by as_aux_lemma => kernel_rfl) ⟨HA.out.1.drewN 1, HA.out.2⟩ (fun hHeld => ?_)
                        refine takeVal 0 204 (.bool v) rfl (by as_aux_lemma => kernel_rfl) (by as_aux_lemma => kernel_rfl) (by as_aux_lemma => kernel_rfl) rfl (by rfl) (fun _ _ _ h => h) hHeld (fun _ hw' => rfl) ?_
                        simp only [List.setIfInBounds_toArray, List.set_cons_zero, List.set_cons_succ]
                        refine takeVal 1 205 (.int .i64 (k : Int)) rfl (by as_aux_lemma => kernel_rfl) (by as_aux_lemma => kernel_rfl) (by as_aux_lemma => kernel_rfl) rfl (by rfl) (fun _ _ _ h => h) hHeld (fun _ hw' => rfl) ?_
                        simp only [List.setIfInBounds_toArray, List.set_cons_zero, List.set_cons_succ]
                        refine takeVal 2 206 (.pointer (some ⟨R, k, none⟩)) rfl (by as_aux_lemma => kernel_rfl) (by as_aux_lemma => kernel_rfl) (by as_aux_lemma => kernel_rfl) rfl (by rfl) (fun _ _ _ h => h) hHeld (fun _ hw' => by go_simp) ?_
                        simp only [List.setIfInBounds_toArray, List.set_cons_zero, List.set_cons_succ]
                        refine takeVal 3 207 (.pointer (some ⟨Q k, 0, none⟩)) rfl (by as_aux_lemma => kernel_rfl) (by as_aux_lemma => kernel_rfl) (by as_aux_lemma => kernel_rfl) rfl (by rfl) (fun _ _ _ h => h) hHeld (fun _ hw' => by have cc := hw'.1.cR hk'; go_simp) ?_
                        simp only [List.setIfInBounds_toArray, List.set_cons_zero, List.set_cons_succ]
                        refine takeVal 4 208 (.pointer (some ⟨u, 2, none⟩)) rfl (by as_aux_lemma => kernel_rfl) (by as_aux_lemma => kernel_rfl) (by as_aux_lemma => kernel_rfl) rfl (by rfl) (fun _ _ _ h => h) hHeld (fun _ hw' => by go_simp) ?_
                        simp only [List.setIfInBounds_toArray, List.set_cons_zero, List.set_cons_succ]
                        refine takeVal 5 209 (.int .i64 nn) rfl (by as_aux_lemma => kernel_rfl) (by as_aux_lemma => kernel_rfl) (by as_aux_lemma => kernel_rfl) rfl (by rfl) (fun _ _ _ h => h) hHeld (fun _ hw' => by have cc := (cells4q hw'.2).2.2.1; go_simp) ?_
                        simp only [List.setIfInBounds_toArray, List.set_cons_zero, List.set_cons_succ]
                        refine step1 6 (by as_aux_lemma => kernel_rfl) ?_
                        refine stCall 6 210 12 #[.pointer (some ⟨Q k, 0, none⟩), .int .i64 nn] _ rfl rfl (by rfl) (by go_simp) (UQ.out _ (hHeld.1.qq k hk')) ?_
                        rintro e w6 ⟨rfl, b6⟩
                        replace hHeld := And.intro (hHeld.1.call b6) ((Chg.of_below b6 No).keep hHeld.2 (fun e => e))
                        refine ⟨_, rfl, hHeld, ?_⟩
                        simp only [List.setIfInBounds_toArray, List.set_cons_zero, List.set_cons_succ]
                        refine takeVal 7 211 (.bool true) rfl (by as_aux_lemma => kernel_rfl) (by as_aux_lemma => kernel_rfl) (by as_aux_lemma => kernel_rfl) rfl (by rfl) (fun _ _ _ h => h) hHeld (fun _ hw' => by go_simp) ?_
                        simp only [List.setIfInBounds_toArray, List.set_cons_zero, List.set_cons_succ]
                        refine takeVal 8 19 (.bool true) rfl (by as_aux_lemma => kernel_rfl) (by as_aux_lemma => kernel_rfl) (by as_aux_lemma => kernel_rfl) rfl (by rfl) (fun _ _ _ h => h) hHeld (fun _ hw' => rfl) ?_
                        simp only [List.setIfInBounds_toArray, List.set_cons_zero, List.set_cons_succ]
                        refine wpAnyH_done (by as_aux_lemma => kernel_rfl) ?_ _
                        refine NoPanic.normal ?_
                        have H6 := hid hHeld.1
                        clear hHeld HA
                        go_upto_region 44 with (fail)
                        refine wp_region_noPanic ?_
                        refine wp_region_held_drew (S := fun w' => Quad w w' X S R a b P Q sl sh ql qh (s)) (by as_aux_lemma => kernel_rfl) (H6.out.drewN 1) (fun hHeld => ?_)
                        refine takeVal 0 212 (.bool true) rfl (by as_aux_lemma => kernel_rfl) (by as_aux_lemma => kernel_rfl) (by as_aux_lemma => kernel_rfl) rfl (by rfl) (fun _ _ _ h => h) hHeld (fun _ hw' => rfl) ?_
                        simp only [List.setIfInBounds_toArray, List.set_cons_zero, List.set_cons_succ]
                        refine takeVal 1 213 (.bool false) rfl (by as_aux_lemma => kernel_rfl) (by as_aux_lemma => kernel_rfl) (by as_aux_lemma => kernel_rfl) rfl (by rfl) (fun _ _ _ h => h) hHeld (fun _ hw' => by go_simp) ?_
                        simp only [List.setIfInBounds_toArray, List.set_cons_zero, List.set_cons_succ]
                        refine takeVal 2 214 (.bool false) rfl (by as_aux_lemma => kernel_rfl) (by as_aux_lemma => kernel_rfl) (by as_aux_lemma => kernel_rfl) rfl (by rfl) (fun _ _ _ h => h) hHeld (fun _ hw' => rfl) ?_
                        simp only [List.setIfInBounds_toArray, List.set_cons_zero, List.set_cons_succ]
                        refine takeVal 3 215 (.pointer (some ⟨S, 0, none⟩)) rfl (by as_aux_lemma => kernel_rfl) (by as_aux_lemma => kernel_rfl) (by as_aux_lemma => kernel_rfl) rfl (by rfl) (fun _ _ _ h => h) hHeld (fun _ hw' => by go_simp) ?_
                        simp only [List.setIfInBounds_toArray, List.set_cons_zero, List.set_cons_succ]
                        refine takeVal 4 216 (.pointer (some ⟨P 0, 0, none⟩)) rfl (by as_aux_lemma => kernel_rfl) (by as_aux_lemma => kernel_rfl) (by as_aux_lemma => kernel_rfl) rfl (by rfl) (fun _ _ _ h => h) hHeld (fun _ hw' => by have cc := hw'.cS (k := 0) (by decide); go_simp) ?_
                        simp only [List.setIfInBounds_toArray, List.set_cons_zero, List.set_cons_succ]
                        refine takeVal 6 218 (.pointer (some ⟨R, 0, none⟩)) rfl (by as_aux_lemma => kernel_rfl) (by as_aux_lemma => kernel_rfl) (by as_aux_lemma => kernel_rfl) rfl (by rfl) (fun _ _ _ h => h) hHeld (fun _ hw' => by go_simp) ?_
                        simp only [List.setIfInBounds_toArray, List.set_cons_zero, List.set_cons_succ]
                        refine takeVal 7 219 (.pointer (some ⟨Q 0, 0, none⟩)) rfl (by as_aux_lemma => kernel_rfl) (by as_aux_lemma => kernel_rfl) (by as_aux_lemma => kernel_rfl) rfl (by rfl) (fun _ _ _ h => h) hHeld (fun _ hw' => by have cc := hw'.cR (k := 0) (by decide); go_simp) ?_
                        simp only [List.setIfInBounds_toArray, List.set_cons_zero, List.set_cons_succ]
                        refine step1 5 (by as_aux_lemma => kernel_rfl) ?_
                        refine stCall 5 217 13 #[.pointer (some ⟨P 0, 0, none⟩)] _ rfl rfl (by rfl) (by go_simp) (room_anyV _ (hHeld.ss 0 (by decide))) ?_
                        rintro e wa ⟨rfl, bwa⟩
                        replace hHeld := hHeld.call bwa
                        refine ⟨_, rfl, hHeld, ?_⟩
                        simp only [List.setIfInBounds_toArray, List.set_cons_zero, List.set_cons_succ]
                        refine step1 8 (by as_aux_lemma => kernel_rfl) ?_
                        refine stCall 8 220 14 #[.pointer (some ⟨Q 0, 0, none⟩)] _ rfl rfl (by rfl) (by go_simp) (rroom_anyV _ (hHeld.qq 0 (by decide))) ?_
                        rintro e wb ⟨rfl, bwb⟩
                        replace hHeld := hHeld.call bwb
                        refine ⟨_, rfl, hHeld, ?_⟩
                        simp only [List.setIfInBounds_toArray, List.set_cons_zero, List.set_cons_succ]
                        refine takeVal 9 221 (.bool false) rfl (by as_aux_lemma => kernel_rfl) (by as_aux_lemma => kernel_rfl) (by as_aux_lemma => kernel_rfl) rfl (by rfl) (fun _ _ _ h => h) hHeld (fun _ hw' => by go_simp) ?_
                        simp only [List.setIfInBounds_toArray, List.set_cons_zero, List.set_cons_succ]
                        refine takeVal 10 222 (.bool false) rfl (by as_aux_lemma => kernel_rfl) (by as_aux_lemma => kernel_rfl) (by as_aux_lemma => kernel_rfl) rfl (by rfl) (fun _ _ _ h => h) hHeld (fun _ hw' => rfl) ?_
                        simp only [List.setIfInBounds_toArray, List.set_cons_zero, List.set_cons_succ]
                        refine takeVal 11 223 (.bool false) rfl (by as_aux_lemma => kernel_rfl) (by as_aux_lemma => kernel_rfl) (by as_aux_lemma => kernel_rfl) rfl (by rfl) (fun _ _ _ h => h) hHeld (fun _ hw' => rfl) ?_
                        simp only [List.setIfInBounds_toArray, List.set_cons_zero, List.set_cons_succ]
                        refine takeVal 12 224 (.pointer (some ⟨S, 1, none⟩)) rfl (by as_aux_lemma => kernel_rfl) (by as_aux_lemma => kernel_rfl) (by as_aux_lemma => kernel_rfl) rfl (by rfl) (fun _ _ _ h => h) hHeld (fun _ hw' => by go_simp) ?_
                        simp only [List.setIfInBounds_toArray, List.set_cons_zero, List.set_cons_succ]
                        refine takeVal 13 225 (.pointer (some ⟨P 1, 0, none⟩)) rfl (by as_aux_lemma => kernel_rfl) (by as_aux_lemma => kernel_rfl) (by as_aux_lemma => kernel_rfl) rfl (by rfl) (fun _ _ _ h => h) hHeld (fun _ hw' => by have cc := hw'.cS (k := 1) (by decide); go_simp) ?_
                        simp only [List.setIfInBounds_toArray, List.set_cons_zero, List.set_cons_succ]
                        refine takeVal 15 227 (.pointer (some ⟨R, 1, none⟩)) rfl (by as_aux_lemma => kernel_rfl) (by as_aux_lemma => kernel_rfl) (by as_aux_lemma => kernel_rfl) rfl (by rfl) (fun _ _ _ h => h) hHeld (fun _ hw' => by go_simp) ?_
                        simp only [List.setIfInBounds_toArray, List.set_cons_zero, List.set_cons_succ]
                        refine takeVal 16 228 (.pointer (some ⟨Q 1, 0, none⟩)) rfl (by as_aux_lemma => kernel_rfl) (by as_aux_lemma => kernel_rfl) (by as_aux_lemma => kernel_rfl) rfl (by rfl) (fun _ _ _ h => h) hHeld (fun _ hw' => by have cc := hw'.cR (k := 1) (by decide); go_simp) ?_
                        simp only [List.setIfInBounds_toArray, List.set_cons_zero, List.set_cons_succ]
                        refine step1 14 (by as_aux_lemma => kernel_rfl) ?_
                        refine stCall 14 226 13 #[.pointer (some ⟨P 1, 0, none⟩)] _ rfl rfl (by rfl) (by go_simp) (room_anyV _ (hHeld.ss 1 (by decide))) ?_
                        rintro e wc ⟨rfl, bwc⟩
                        replace hHeld := hHeld.call bwc
                        refine ⟨_, rfl, hHeld, ?_⟩
                        simp only [List.setIfInBounds_toArray, List.set_cons_zero, List.set_cons_succ]
                        refine step1 17 (by as_aux_lemma => kernel_rfl) ?_
                        refine stCall 17 229 14 #[.pointer (some ⟨Q 1, 0, none⟩)] _ rfl rfl (by rfl) (by go_simp) (rroom_anyV _ (hHeld.qq 1 (by decide))) ?_
                        rintro e wd ⟨rfl, bwd⟩
                        replace hHeld := hHeld.call bwd
                        refine ⟨_, rfl, hHeld, ?_⟩
                        simp only [List.setIfInBounds_toArray, List.set_cons_zero, List.set_cons_succ]
                        refine takeVal 18 230 (.bool false) rfl (by as_aux_lemma => kernel_rfl) (by as_aux_lemma => kernel_rfl) (by as_aux_lemma => kernel_rfl) rfl (by rfl) (fun _ _ _ h => h) hHeld (fun _ hw' => by go_simp) ?_
                        simp only [List.setIfInBounds_toArray, List.set_cons_zero, List.set_cons_succ]
                        refine takeVal 19 231 (.bool false) rfl (by as_aux_lemma => kernel_rfl) (by as_aux_lemma => kernel_rfl) (by as_aux_lemma => kernel_rfl) rfl (by rfl) (fun _ _ _ h => h) hHeld (fun _ hw' => rfl) ?_
                        simp only [List.setIfInBounds_toArray, List.set_cons_zero, List.set_cons_succ]
                        refine wpAnyH_done (by as_aux_lemma => kernel_rfl) ?_ _
                        refine NoPanic.normal ?_
                        have HE := hid hHeld
                        clear hHeld
                        go_wp2_with fail
                        exact ⟨⟨j + 1, s, by omega, by go_num, HE⟩, by simp [intOf]; omega⟩
                    · have q6' : (kd == 6) = false := beq_false_of_ne q6
                      clear q6
                      go_upto_region 44 with (fail)
                      refine wp_region_noPanic ?_
                      refine wp_region_held_drew (S := fun w' => Quad w w' X S R a b P Q sl sh ql qh (s)) (by as_aux_lemma => kernel_rfl) (HI3.out.drewN 1) (fun hHeld => ?_)
                      refine takeVal 0 212 (.bool true) rfl (by as_aux_lemma => kernel_rfl) (by as_aux_lemma => kernel_rfl) (by as_aux_lemma => kernel_rfl) rfl (by rfl) (fun _ _ _ h => h) hHeld (fun _ hw' => rfl) ?_
                      simp only [List.setIfInBounds_toArray, List.set_cons_zero, List.set_cons_succ]
                      refine takeVal 1 213 (.bool false) rfl (by as_aux_lemma => kernel_rfl) (by as_aux_lemma => kernel_rfl) (by as_aux_lemma => kernel_rfl) rfl (by rfl) (fun _ _ _ h => h) hHeld (fun _ hw' => by go_simp) ?_
                      simp only [List.setIfInBounds_toArray, List.set_cons_zero, List.set_cons_succ]
                      refine takeVal 2 214 (.bool false) rfl (by as_aux_lemma => kernel_rfl) (by as_aux_lemma => kernel_rfl) (by as_aux_lemma => kernel_rfl) rfl (by rfl) (fun _ _ _ h => h) hHeld (fun _ hw' => rfl) ?_
                      simp only [List.setIfInBounds_toArray, List.set_cons_zero, List.set_cons_succ]
                      refine takeVal 3 215 (.pointer (some ⟨S, 0, none⟩)) rfl (by as_aux_lemma => kernel_rfl) (by as_aux_lemma => kernel_rfl) (by as_aux_lemma => kernel_rfl) rfl (by rfl) (fun _ _ _ h => h) hHeld (fun _ hw' => by go_simp) ?_
                      simp only [List.setIfInBounds_toArray, List.set_cons_zero, List.set_cons_succ]
                      refine takeVal 4 216 (.pointer (some ⟨P 0, 0, none⟩)) rfl (by as_aux_lemma => kernel_rfl) (by as_aux_lemma => kernel_rfl) (by as_aux_lemma => kernel_rfl) rfl (by rfl) (fun _ _ _ h => h) hHeld (fun _ hw' => by have cc := hw'.cS (k := 0) (by decide); go_simp) ?_
                      simp only [List.setIfInBounds_toArray, List.set_cons_zero, List.set_cons_succ]
                      refine takeVal 6 218 (.pointer (some ⟨R, 0, none⟩)) rfl (by as_aux_lemma => kernel_rfl) (by as_aux_lemma => kernel_rfl) (by as_aux_lemma => kernel_rfl) rfl (by rfl) (fun _ _ _ h => h) hHeld (fun _ hw' => by go_simp) ?_
                      simp only [List.setIfInBounds_toArray, List.set_cons_zero, List.set_cons_succ]
                      refine takeVal 7 219 (.pointer (some ⟨Q 0, 0, none⟩)) rfl (by as_aux_lemma => kernel_rfl) (by as_aux_lemma => kernel_rfl) (by as_aux_lemma => kernel_rfl) rfl (by rfl) (fun _ _ _ h => h) hHeld (fun _ hw' => by have cc := hw'.cR (k := 0) (by decide); go_simp) ?_
                      simp only [List.setIfInBounds_toArray, List.set_cons_zero, List.set_cons_succ]
                      refine step1 5 (by as_aux_lemma => kernel_rfl) ?_
                      refine stCall 5 217 13 #[.pointer (some ⟨P 0, 0, none⟩)] _ rfl rfl (by rfl) (by go_simp) (room_anyV _ (hHeld.ss 0 (by decide))) ?_
                      rintro e wa ⟨rfl, bwa⟩
                      replace hHeld := hHeld.call bwa
                      refine ⟨_, rfl, hHeld, ?_⟩
                      simp only [List.setIfInBounds_toArray, List.set_cons_zero, List.set_cons_succ]
                      refine step1 8 (by as_aux_lemma => kernel_rfl) ?_
                      refine stCall 8 220 14 #[.pointer (some ⟨Q 0, 0, none⟩)] _ rfl rfl (by rfl) (by go_simp) (rroom_anyV _ (hHeld.qq 0 (by decide))) ?_
                      rintro e wb ⟨rfl, bwb⟩
                      replace hHeld := hHeld.call bwb
                      refine ⟨_, rfl, hHeld, ?_⟩
                      simp only [List.setIfInBounds_toArray, List.set_cons_zero, List.set_cons_succ]
                      refine takeVal 9 221 (.bool false) rfl (by as_aux_lemma => kernel_rfl) (by as_aux_lemma => kernel_rfl) (by as_aux_lemma => kernel_rfl) rfl (by rfl) (fun _ _ _ h => h) hHeld (fun _ hw' => by go_simp) ?_
                      simp only [List.setIfInBounds_toArray, List.set_cons_zero, List.set_cons_succ]
                      refine takeVal 10 222 (.bool false) rfl (by as_aux_lemma => kernel_rfl) (by as_aux_lemma => kernel_rfl) (by as_aux_lemma => kernel_rfl) rfl (by rfl) (fun _ _ _ h => h) hHeld (fun _ hw' => rfl) ?_
                      simp only [List.setIfInBounds_toArray, List.set_cons_zero, List.set_cons_succ]
                      refine takeVal 11 223 (.bool false) rfl (by as_aux_lemma => kernel_rfl) (by as_aux_lemma => kernel_rfl) (by as_aux_lemma => kernel_rfl) rfl (by rfl) (fun _ _ _ h => h) hHeld (fun _ hw' => rfl) ?_
                      simp only [List.setIfInBounds_toArray, List.set_cons_zero, List.set_cons_succ]
                      refine takeVal 12 224 (.pointer (some ⟨S, 1, none⟩)) rfl (by as_aux_lemma => kernel_rfl) (by as_aux_lemma => kernel_rfl) (by as_aux_lemma => kernel_rfl) rfl (by rfl) (fun _ _ _ h => h) hHeld (fun _ hw' => by go_simp) ?_
                      simp only [List.setIfInBounds_toArray, List.set_cons_zero, List.set_cons_succ]
                      refine takeVal 13 225 (.pointer (some ⟨P 1, 0, none⟩)) rfl (by as_aux_lemma => kernel_rfl) (by as_aux_lemma => kernel_rfl) (by as_aux_lemma => kernel_rfl) rfl (by rfl) (fun _ _ _ h => h) hHeld (fun _ hw' => by have cc := hw'.cS (k := 1) (by decide); go_simp) ?_
                      simp only [List.setIfInBounds_toArray, List.set_cons_zero, List.set_cons_succ]
                      refine takeVal 15 227 (.pointer (some ⟨R, 1, none⟩)) rfl (by as_aux_lemma => kernel_rfl) (by as_aux_lemma => kernel_rfl) (by as_aux_lemma => kernel_rfl) rfl (by rfl) (fun _ _ _ h => h) hHeld (fun _ hw' => by go_simp) ?_
                      simp only [List.setIfInBounds_toArray, List.set_cons_zero, List.set_cons_succ]
                      refine takeVal 16 228 (.pointer (some ⟨Q 1, 0, none⟩)) rfl (by as_aux_lemma => kernel_rfl) (by as_aux_lemma => kernel_rfl) (by as_aux_lemma => kernel_rfl) rfl (by rfl) (fun _ _ _ h => h) hHeld (fun _ hw' => by have cc := hw'.cR (k := 1) (by decide); go_simp) ?_
                      simp only [List.setIfInBounds_toArray, List.set_cons_zero, List.set_cons_succ]
                      refine step1 14 (by as_aux_lemma => kernel_rfl) ?_
                      refine stCall 14 226 13 #[.pointer (some ⟨P 1, 0, none⟩)] _ rfl rfl (by rfl) (by go_simp) (room_anyV _ (hHeld.ss 1 (by decide))) ?_
                      rintro e wc ⟨rfl, bwc⟩
                      replace hHeld := hHeld.call bwc
                      refine ⟨_, rfl, hHeld, ?_⟩
                      simp only [List.setIfInBounds_toArray, List.set_cons_zero, List.set_cons_succ]
                      refine step1 17 (by as_aux_lemma => kernel_rfl) ?_
                      refine stCall 17 229 14 #[.pointer (some ⟨Q 1, 0, none⟩)] _ rfl rfl (by rfl) (by go_simp) (rroom_anyV _ (hHeld.qq 1 (by decide))) ?_
                      rintro e wd ⟨rfl, bwd⟩
                      replace hHeld := hHeld.call bwd
                      refine ⟨_, rfl, hHeld, ?_⟩
                      simp only [List.setIfInBounds_toArray, List.set_cons_zero, List.set_cons_succ]
                      refine takeVal 18 230 (.bool false) rfl (by as_aux_lemma => kernel_rfl) (by as_aux_lemma => kernel_rfl) (by as_aux_lemma => kernel_rfl) rfl (by rfl) (fun _ _ _ h => h) hHeld (fun _ hw' => by go_simp) ?_
                      simp only [List.setIfInBounds_toArray, List.set_cons_zero, List.set_cons_succ]
                      refine takeVal 19 231 (.bool false) rfl (by as_aux_lemma => kernel_rfl) (by as_aux_lemma => kernel_rfl) (by as_aux_lemma => kernel_rfl) rfl (by rfl) (fun _ _ _ h => h) hHeld (fun _ hw' => rfl) ?_
                      simp only [List.setIfInBounds_toArray, List.set_cons_zero, List.set_cons_succ]
                      refine wpAnyH_done (by as_aux_lemma => kernel_rfl) ?_ _
                      refine NoPanic.normal ?_
                      have HE := hid hHeld
                      clear hHeld
                      go_wp2_with fail
                      exact ⟨⟨j + 1, s, by omega, by go_num, HE⟩, by simp [intOf]; omega⟩
        · clear hj
          have hjl : ¬ (j : Int) < (len : Int) := by omega
          clear hlt
          go_wp2
          go_loopw [34] (fun i wr => ∃ z : Int, -1 ≤ z ∧ z ≤ (b : Int) + 2 ∧ i = .int .i64 z ∧ Hid (Quad w wr X S R a b P Q sl sh ql qh s)) (fun i _ => ((b : Int) + 2 - intOf i).toNat)
          case atStart => exact ⟨-1, by omega, by omega, rfl, HI⟩
          case round =>
            clear HI
            obtain ⟨z, hz1, hz2, rfl, HI⟩ := hrel
            have k1 := HI.out.c1
            by_cases hlt : z ≤ (b : Int) + 1
            · go_upto_region 49 with (fail)
              clear k1
              obtain ⟨v0, hv0⟩ : ∃ v, hasL (s 0).I z = v := ⟨_, rfl⟩
              have U0 := hid fun w h => used_any (s := s 0) (lo := sl 0) (hi := sh 0) (p := P 0) z w h
              have V0 := hid fun w h => rused_any (s := s 0) (lo := ql 0) (hi := qh 0) (p := Q 0) z w h
              rw [hv0] at U0 V0
              clear hv0
              obtain ⟨v1, hv1⟩ : ∃ v, hasL (s 1).I z = v := ⟨_, rfl⟩
              have U1 := hid fun w h => used_any (s := s 1) (lo := sl 1) (hi := sh 1) (p := P 1) z w h
              have V1 := hid fun w h => rused_any (s := s 1) (lo := ql 1) (hi := qh 1) (p := Q 1) z w h
              rw [hv1] at U1 V1
              clear hv1
              refine wp_region_noPanic ?_
              refine wp_region_held_drew (S := fun w' => Quad w w' X S R a b P Q sl sh ql qh s) (by as_aux_lemma => kernel_rfl) (HI.out.drewN 1) (fun hHeld => ?_)
              refine takeVal 0 239 (.pointer (some ⟨S, 0, none⟩)) rfl (by as_aux_lemma => kernel_rfl) (by as_aux_lemma => kernel_rfl) (by as_aux_lemma => kernel_rfl) rfl (by rfl) (fun _ _ _ h => h) hHeld (fun _ hw' => by go_simp) ?_
              simp only [List.setIfInBounds_toArray, List.set_cons_zero, List.set_cons_succ]
              refine takeVal 1 240 (.pointer (some ⟨P 0, 0, none⟩)) rfl (by as_aux_lemma => kernel_rfl) (by as_aux_lemma => kernel_rfl) (by as_aux_lemma => kernel_rfl) rfl (by rfl) (fun _ _ _ h => h) hHeld (fun _ hw' => by have cc := hw'.cS (k := 0) (by decide); go_simp) ?_
              simp only [List.setIfInBounds_toArray, List.set_cons_zero, List.set_cons_succ]
              refine takeVal 2 241 (.int .i64 z) rfl (by as_aux_lemma => kernel_rfl) (by as_aux_lemma => kernel_rfl) (by as_aux_lemma => kernel_rfl) rfl (by rfl) (fun _ _ _ h => h) hHeld (fun _ hw' => rfl) ?_
              simp only [List.setIfInBounds_toArray, List.set_cons_zero, List.set_cons_succ]
              refine takeVal 4 243 (.pointer (some ⟨R, 0, none⟩)) rfl (by as_aux_lemma => kernel_rfl) (by as_aux_lemma => kernel_rfl) (by as_aux_lemma => kernel_rfl) rfl (by rfl) (fun _ _ _ h => h) hHeld (fun _ hw' => by go_simp) ?_
              simp only [List.setIfInBounds_toArray, List.set_cons_zero, List.set_cons_succ]
              refine takeVal 5 244 (.pointer (some ⟨Q 0, 0, none⟩)) rfl (by as_aux_lemma => kernel_rfl) (by as_aux_lemma => kernel_rfl) (by as_aux_lemma => kernel_rfl) rfl (by rfl) (fun _ _ _ h => h) hHeld (fun _ hw' => by have cc := hw'.cR (k := 0) (by decide); go_simp) ?_
              simp only [List.setIfInBounds_toArray, List.set_cons_zero, List.set_cons_succ]
              refine takeVal 6 245 (.int .i64 z) rfl (by as_aux_lemma => kernel_rfl) (by as_aux_lemma => kernel_rfl) (by as_aux_lemma => kernel_rfl) rfl (by rfl) (fun _ _ _ h => h) hHeld (fun _ hw' => rfl) ?_
              simp only [List.setIfInBounds_toArray, List.set_cons_zero, List.set_cons_succ]
              refine step1 3 (by as_aux_lemma => kernel_rfl) ?_
              refine stCall 3 242 11 #[.pointer (some ⟨P 0, 0, none⟩), .int .i64 z] _ rfl rfl (by rfl) (by go_simp) (U0.out _ (hHeld.ss 0 (by decide))) ?_
              rintro e wa ⟨rfl, rfl⟩
              refine ⟨_, rfl, hHeld, ?_⟩
              simp only [List.setIfInBounds_toArray, List.set_cons_zero, List.set_cons_succ]
              refine step1 7 (by as_aux_lemma => kernel_rfl) ?_
              refine stCall 7 246 12 #[.pointer (some ⟨Q 0, 0, none⟩), .int .i64 z] _ rfl rfl (by rfl) (by go_simp) (V0.out _ (hHeld.qq 0 (by decide))) ?_
              rintro e wb ⟨rfl, bwb⟩
              replace hHeld := hHeld.call bwb
              refine ⟨_, rfl, hHeld, ?_⟩
              simp only [List.setIfInBounds_toArray, List.set_cons_zero, List.set_cons_succ]
              refine takeVal 8 247 (.bool false) rfl (by as_aux_lemma => kernel_rfl) (by as_aux_lemma => kernel_rfl) (by as_aux_lemma => kernel_rfl) rfl (by rfl) (fun _ _ _ h => h) hHeld (fun _ hw' => by go_simp) ?_
              simp only [List.setIfInBounds_toArray, List.set_cons_zero, List.set_cons_succ]
              refine takeVal 9 248 (.bool false) rfl (by as_aux_lemma => kernel_rfl) (by as_aux_lemma => kernel_rfl) (by as_aux_lemma => kernel_rfl) rfl (by rfl) (fun _ _ _ h => h) hHeld (fun _ hw' => rfl) ?_
              simp only [List.setIfInBounds_toArray, List.set_cons_zero, List.set_cons_succ]
              refine takeVal 10 249 (.pointer (some ⟨S, 1, none⟩)) rfl (by as_aux_lemma => kernel_rfl) (by as_aux_lemma => kernel_rfl) (by as_aux_lemma => kernel_rfl) rfl (by rfl) (fun _ _ _ h => h) hHeld (fun _ hw' => by go_simp) ?_
              simp only [List.setIfInBounds_toArray, List.set_cons_zero, List.set_cons_succ]
              refine takeVal 11 250 (.pointer (some ⟨P 1, 0, none⟩)) rfl (by as_aux_lemma => kernel_rfl) (by as_aux_lemma => kernel_rfl) (by as_aux_lemma => kernel_rfl) rfl (by rfl) (fun _ _ _ h => h) hHeld (fun _ hw' => by have cc := hw'.cS (k := 1) (by decide); go_simp) ?_
              simp only [List.setIfInBounds_toArray, List.set_cons_zero, List.set_cons_succ]
              refine takeVal 12 251 (.int .i64 z) rfl (by as_aux_lemma => kernel_rfl) (by as_aux_lemma => kernel_rfl) (by as_aux_lemma => kernel_rfl) rfl (by rfl) (fun _ _ _ h => h) hHeld (fun _ hw' => rfl) ?_
              simp only [List.setIfInBounds_toArray, List.set_cons_zero, List.set_cons_succ]
              refine takeVal 14 253 (.pointer (some ⟨R, 1, none⟩)) rfl (by as_aux_lemma => kernel_rfl) (by as_aux_lemma => kernel_rfl) (by as_aux_lemma => kernel_rfl) rfl (by rfl) (fun _ _ _ h => h) hHeld (fun _ hw' => by go_simp) ?_
              simp only [List.setIfInBounds_toArray, List.set_cons_zero, List.set_cons_succ]
              refine takeVal 15 254 (.pointer (some ⟨Q 1, 0, none⟩)) rfl (by as_aux_lemma => kernel_rfl) (by as_aux_lemma => kernel_rfl) (by as_aux_lemma => kernel_rfl) rfl (by rfl) (fun _ _ _ h => h) hHeld (fun _ hw' => by have cc := hw'.cR (k := 1) (by decide); go_simp) ?_
              simp only [List.setIfInBounds_toArray, List.set_cons_zero, List.set_cons_succ]
              refine takeVal 16 255 (.int .i64 z) rfl (by as_aux_lemma => kernel_rfl) (by as_aux_lemma => kernel_rfl) (by as_aux_lemma => kernel_rfl) rfl (by rfl) (fun _ _ _ h => h) hHeld (fun _ hw' => rfl) ?_
              simp only [List.setIfInBounds_toArray, List.set_cons_zero, List.set_cons_succ]
              refine step1 13 (by as_aux_lemma => kernel_rfl) ?_
              refine stCall 13 252 11 #[.pointer (some ⟨P 1, 0, none⟩), .int .i64 z] _ rfl rfl (by rfl) (by go_simp) (U1.out _ (hHeld.ss 1 (by decide))) ?_
              rintro e wc ⟨rfl, rfl⟩
              refine ⟨_, rfl, hHeld, ?_⟩
              simp only [List.setIfInBounds_toArray, List.set_cons_zero, List.set_cons_succ]
              refine step1 17 (by as_aux_lemma => kernel_rfl) ?_
              refine stCall 17 256 12 #[.pointer (some ⟨Q 1, 0, none⟩), .int .i64 z] _ rfl rfl (by rfl) (by go_simp) (V1.out _ (hHeld.qq 1 (by decide))) ?_
              rintro e wd ⟨rfl, bwd⟩
              replace hHeld := hHeld.call bwd
              refine ⟨_, rfl, hHeld, ?_⟩
              simp only [List.setIfInBounds_toArray, List.set_cons_zero, List.set_cons_succ]
              refine takeVal 18 257 (.bool false) rfl (by as_aux_lemma => kernel_rfl) (by as_aux_lemma => kernel_rfl) (by as_aux_lemma => kernel_rfl) rfl (by rfl) (fun _ _ _ h => h) hHeld (fun _ hw' => by go_simp) ?_
              simp only [List.setIfInBounds_toArray, List.set_cons_zero, List.set_cons_succ]
              refine takeVal 19 258 (.bool false) rfl (by as_aux_lemma => kernel_rfl) (by as_aux_lemma => kernel_rfl) (by as_aux_lemma => kernel_rfl) rfl (by rfl) (fun _ _ _ h => h) hHeld (fun _ hw' => rfl) ?_
              simp only [List.setIfInBounds_toArray, List.set_cons_zero, List.set_cons_succ]
              refine wpAnyH_done (by as_aux_lemma => kernel_rfl) ?_ _
              refine NoPanic.normal ?_
              have HE := hid hHeld
              clear hHeld
              go_wp2_with fail
              exact ⟨⟨z + 1, by omega, by omega, rfl, HE⟩, by simp [intOf]; omega⟩
            · go_wp2
              go_ret
              exact ⟨rfl, HI.out.be⟩

end Go.Proofs.Ytdddcllakjeplaa
