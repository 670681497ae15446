/-
  The document's one: the node at a place.
-/
import Derived.Test.YtiakfgplhdbaeaaYN
namespace Go.Proofs.Ytiakfgplhdbaeaa
open Go.RowKit

theorem results_R3 {fn : Func} {p u x : Tmp} {t : TypeId} (h : fn.results = #[.cell p t, .tmp u, .tmp x]) (tmps : Array Value) (w : World) (g : Nat) (c : Array Value) (tb : TypeId) (d : TypeDesc) (v y : Value)
    (hu : Try.prog.underlying t = some d) (hd : d.isRow = true) (hi : (Try.prog.info? t).map (·.size) = some c.size)
    (hp : tmps.getD p undef = .pointer (some ⟨g, 0, none⟩)) (hv : tmps.getD u undef = v) (hy : tmps.getD x undef = y) (hg : w.heap[g]? = some (.cells c tb (0, 0))) :
    (results fn tmps).run Try.prog w = .ok (.tuple #[.agg c, v, y]) w := by
  have hp' : tmps[p]?.getD undef = .pointer (some ⟨g, 0, none⟩) := by simpa using hp
  have hv' : tmps[u]?.getD undef = v := by simpa using hv
  have hy' : tmps[x]?.getD undef = y := by simpa using hy
  simp [results, h, hp', hv', hy', asAddr, run_loadR w g t tb c d hg hu hd hi]
theorem conv_new (s : ByteArray) (w : World) : ∃ cap w', (convert 9 29 (.string s)).run Try.prog w = .ok (.slice (some ⟨w.heap.size, 0, none⟩) s.size cap) w' ∧ BytesAt w' (some ⟨w.heap.size, 0, none⟩) (bytesI s) ∧ Chg w w' No ∧ ∃ A f, w'.heap[w.heap.size]? = some (.cells A 5 f) := by
  have h := run_bytes_of_string (P := Try.prog) w 9 29 5 s Try.underlying9 Try.underlying29 Try.underlying5
  have hn : (w.drew.alloc (.cells (bytesRow s (grownCap w s.size 0 5)) 5 ((bytesRow s (grownCap w s.size 0 5)).size, (bytesRow s (grownCap w s.size 0 5)).size + 1))).heap[w.heap.size]? = some (.cells (bytesRow s (grownCap w s.size 0 5)) 5 ((bytesRow s (grownCap w s.size 0 5)).size, (bytesRow s (grownCap w s.size 0 5)).size + 1)) := heap_alloc_new w.drew _
  refine ⟨_, _, h, ?_, (Chg.refl w No).drew.tr (Chg.alloc _ _ No), _, _, hn⟩
  refine .inr ⟨w.heap.size, 0, rfl, slt hn, fun j hj => ?_⟩
  rw [bytesI_len] at hj
  rw [Nat.zero_add, cell_of_row _ _ _ _ 5 _ hn]
  have hj' : j < s.data.size := hj
  simp [bytesRow, bytesI, Array.getElem?_append, hj]
theorem one_txt {zs : List Int} : (rnumZ 8 (zs.drop 1) = none → oneZ zs = none) ∧ ∀ v, rnumZ 8 (zs.drop 1) = some v → 9 ≤ zs.length ∧ valB ((zs.drop 1).take 8) = v := by
  unfold rnumZ
  constructor
  · intro e
    split at e
    · rename_i hc
      unfold oneZ
      rcases hc with hc | hc
      · rw [List.length_drop] at hc
        rw [if_pos (.inl (by omega))]
      · rw [if_pos (.inr (.inr (by omega)))]
    · cases e
  · intro v e
    split at e
    · cases e
    · rename_i hc
      rw [List.length_drop] at hc
      cases e
      exact ⟨by omega, rfl⟩
def ZN : Nod := ⟨⟨#[]⟩, 0, 0, ⟨#[]⟩, none, [], 0⟩
/-- What the document's one answers. -/
def OnePost (zs : List Int) (at_ : Nat) (w : World) (e : Ending) (w' : World) : Prop :=
  Chg w w' No ∧ ((oneZ (zs.drop at_) = none ∧ ∃ m, e = .returned (.tuple #[.agg (nodA m), .int .i64 0, .bool false])) ∨
    ∃ n r da dc fin, oneZ (zs.drop at_) = some (n, r) ∧ r = zs.drop fin ∧ fin ≤ zs.length ∧ e = .returned (.tuple #[.agg (nodA { n with da := da, dc := dc }), .int .i64 ((fin : Nat) : Int), .bool true]) ∧ BytesAt w' da n.data ∧ ∀ g o, da = some ⟨g, o, none⟩ → w.heap.size ≤ g ∧ ∃ A f, w'.heap[g]? = some (.cells A 5 f))

set_option maxHeartbeats 8000000 in
set_option maxRecDepth 100000 in
theorem rone_any {a : Option Addr} {cap : Nat} {zs : List Int} (at_ : Nat) (w : World) (h : BytesAt w a zs) (hr : okB zs) (hl : zs.length ≤ 4000000) (hcp : zs.length ≤ cap) (ha : at_ < zs.length) :
    Calls Try.prog 25 #[.slice a zs.length cap, .int .i64 (at_ : Int)] w fun e w' => OnePost zs at_ w e w' := by
  have hb0 : ∀ W, (Instr.build 47 #[]).run Try.prog W = .ok (.agg #[.string ⟨#[]⟩, .int .i64 0, .int .i64 0, .string ⟨#[]⟩, .slice none 0 0]) W := fun W => by kernel_rfl
  have hb2 : ∀ W k m, (Instr.build 47 #[(1, .int .i64 k), (2, .int .i64 m)]).run Try.prog W = .ok (.agg #[.string ⟨#[]⟩, .int .i64 k, .int .i64 m, .string ⟨#[]⟩, .slice none 0 0]) W := fun W k m => by kernel_rfl
  obtain ⟨w0, hw0⟩ : ∃ y, y = w.alloc (.cells #[.string ⟨#[]⟩, .int .i64 0, .int .i64 0, .string ⟨#[]⟩, .slice none 0 0] 47) := ⟨_, rfl⟩
  have hc0 : Chg w w0 No := by rw [hw0]; exact Chg.alloc _ _ No
  have HR0 : Hid (w0.heap[w.heap.size]? = some (.cells #[.string ⟨#[]⟩, .int .i64 0, .int .i64 0, .string ⟨#[]⟩, .slice none 0 0] 47 (0, 0))) := hid (by rw [hw0]; exact heap_alloc_new _ _)
  have hN := rnumber_any (cap := cap) (at_ + 1) 8 w0 (h.call hc0) hr hl (by omega) (by decide) (by decide)
  have HTx : Hid (∀ W (k most : Nat), Chg w W No → k ≤ 8000000 → most ≤ 4000000 → Calls Try.prog 33 #[.slice a zs.length cap, .int .i64 (k : Int), .int .i64 (most : Int)] W fun e w' => w' = W ∧ ((txtZ most (zs.drop k) = none ∧ e = .returned (.tuple #[.string ⟨#[]⟩, .int .i64 0, .bool false])) ∨ ∃ p r, txtZ most (zs.drop k) = some (p, r) ∧ r = zs.drop (k + 4 + p.length) ∧ k + 4 + p.length ≤ zs.length ∧ e = .returned (.tuple #[.string (strOf p), .int .i64 ((k + 4 + p.length : Nat) : Int), .bool true]))) := hid (fun W k most hW hk hm => rtext_any k most W (h.call hW) hr hl hcp hk hm)
  have HZ := hid (one_txt (zs := zs.drop at_))
  rw [List.drop_drop] at HZ
  have HC0 := hid hc0
  have HOk := hid hr
  have sz0 := nodA_sz ZN
  obtain ⟨b, o, ea, hcell⟩ : ∃ b o, a = some ⟨b, o, none⟩ ∧ w0.cell? ⟨b, o + at_, none⟩ = some (.int .u8 ((zs.drop at_).getD 0 0)) := by
    rcases h.call hc0 with e1 | ⟨b, o, rfl, hb, hc⟩
    · rw [e1] at ha; simp at ha
    · refine ⟨b, o, rfl, ?_⟩
      rw [hc at_ ha]
      congr 2
      rw [List.getD_eq_getElem?_getD, List.getD_eq_getElem?_getD, List.getElem?_drop, Nat.add_zero]
  subst ea
  obtain ⟨n, hn⟩ : ∃ y, y = zs.length := ⟨_, rfl⟩
  rw [← hn] at hl hcp ha hN HTx ⊢
  have HNn := hid hn
  have e8 : ((at_ + 1 : Nat) : Int) = (at_ : Int) + 1 := by omega
  rw [e8] at hN
  have hkd := hr.drop at_ ((zs.drop at_).getD 0 0) (by rw [List.getD_eq_getElem?_getD, List.getElem?_eq_getElem (by rw [List.length_drop, ← hn]; omega)]; exact List.getElem_mem _)
  obtain ⟨kd, hkk⟩ : ∃ y, y = (zs.drop at_).getD 0 0 := ⟨_, rfl⟩
  rw [← hkk] at hcell hkd
  have HKd := hid hkk
  obtain ⟨g4, hg4⟩ : ∃ y, y = w.heap.size := ⟨_, rfl⟩
  rw [← hg4] at HR0
  have HG4 := hid hg4
  have hi : (at_ : Int) < (n : Int) := by omega
  clear h hr hn e8 hkk hc0
  cases hx : rnumZ 8 (zs.drop (at_ + 1)) with
  | none =>
    as_aux_lemma =>
    have HO := hid (HZ.out.1 hx)
    have hN : Calls Try.prog 32 #[.slice (some ⟨b, o, none⟩) n cap, .int .i64 ((at_ : Int) + 1), .int .i64 8] w0 fun e w' => e = .returned (.tuple #[.int .i64 0, .bool false]) ∧ w' = w0 := hN.mono (by
      rintro e w' ⟨h1, ⟨_, h2⟩ | ⟨v, h2, _⟩⟩
      · exact ⟨h2, h1⟩
      · rw [hx] at h2; cases h2)
    clear hx
    go_enter Try.func25, Try.ntmps25
    go_upto_region 1 with fail
    rw [← hw0, ← HG4.out]
    clear hw0 hg4
    go_wp2_with (first
      | (go_at_call 32; go_must (refine hN.mono ?_; rintro e w1 ⟨rfl, rfl⟩))
      | (refine store_R rfl 47 _ _ rfl g4 #[.string ⟨#[]⟩, .int .i64 0, .int .i64 0, .string ⟨#[]⟩, .slice none 0 0] rfl rfl 47 _ HR0.out sz0 rfl (nodA_one ZN) ?_; intro w6 hw6)
      | fail)
    have hk6 := kt_new hw6
    exact bodyPost_ret (v := .tuple #[.agg #[.string ⟨#[]⟩, .int .i64 0, .int .i64 0, .string ⟨#[]⟩, .slice none 0 0], .int .i64 0, .bool false]) (results_R3 Try.results25 _ _ g4 _ 47 _ _ _ Try.underlying47 rfl sz0 rfl rfl rfl hw6.here) rfl ⟨HC0.out.trans hk6 (fun _ _ e => e) (fun j hj e => by have := HG4.out; omega), .inl ⟨HO.out, ZN, rfl⟩⟩
  | some v =>
    obtain ⟨h9, hv⟩ := HZ.out.2 v hx
    have HO : Hid (oneZ (zs.drop at_) = if ¬ (kd = 1 ∨ kd = 2) ∨ 1099511627776 < v then none
        else match txtZ 400 (zs.drop (at_ + 9)) with
          | none => none
          | some (p, r1) => match txtZ 400 r1 with
            | none => none
            | some (q, r2) => match txtZ 136704 r2 with
              | none => none
              | some (d, r3) => some (⟨strOf p, kd, v, strOf q, none, d, 0⟩, r3)) := hid (by
      unfold oneZ
      rw [← HKd.out, List.drop_drop, List.drop_drop, hv]
      by_cases hc : ¬ (kd = 1 ∨ kd = 2) ∨ 1099511627776 < v
      · rw [if_pos (.inr hc), if_pos hc]
      · rw [if_neg (by omega), if_neg hc]
        rfl)
    have hN : Calls Try.prog 32 #[.slice (some ⟨b, o, none⟩) n cap, .int .i64 ((at_ : Int) + 1), .int .i64 8] w0 fun e w' => e = .returned (.tuple #[.int .i64 v, .bool true]) ∧ w' = w0 := hN.mono (by
      rintro e w' ⟨h1, ⟨h2, _⟩ | ⟨v', h2, h3⟩⟩
      · rw [hx] at h2; cases h2
      · rw [hx] at h2; cases h2; exact ⟨h3, h1⟩)
    rw [List.length_drop, ← HNn.out] at h9
    clear hx hv HZ
    by_cases hc : ¬ (kd = 1 ∨ kd = 2) ∨ 1099511627776 < v
    · as_aux_lemma =>
      have HOn : Hid (oneZ (zs.drop at_) = none) := hid (by rw [HO.out, if_pos hc])
      clear h9 HO
      have HO := HOn
      by_cases k1 : kd = 1
      · subst k1
        have hv2 : 1099511627776 < v := by omega
        clear hc
        go_enter Try.func25, Try.ntmps25
        go_upto_region 1 with fail
        rw [← hw0, ← HG4.out]
        clear hw0 hg4
        go_wp2_with (first
          | (go_at_call 32; go_must (refine hN.mono ?_; rintro e w1 ⟨rfl, rfl⟩))
          | (refine store_R rfl 47 _ _ rfl g4 #[.string ⟨#[]⟩, .int .i64 0, .int .i64 0, .string ⟨#[]⟩, .slice none 0 0] rfl rfl 47 _ HR0.out sz0 rfl (nodA_one ZN) ?_; intro w6 hw6)
          | fail)
        have hk6 := kt_new hw6
        exact bodyPost_ret (v := .tuple #[.agg #[.string ⟨#[]⟩, .int .i64 0, .int .i64 0, .string ⟨#[]⟩, .slice none 0 0], .int .i64 0, .bool false]) (results_R3 Try.results25 _ _ g4 _ 47 _ _ _ Try.underlying47 rfl sz0 rfl rfl rfl hw6.here) rfl ⟨HC0.out.trans hk6 (fun _ _ e => e) (fun j hj e => by have := HG4.out; omega), .inl ⟨HO.out, ZN, rfl⟩⟩
      · by_cases k2 : kd = 2
        · subst k2
          have hv2 : 1099511627776 < v := by omega
          clear hc k1
          go_enter Try.func25, Try.ntmps25
          go_upto_region 1 with fail
          rw [← hw0, ← HG4.out]
          clear hw0 hg4
          go_wp2_with (first
            | (go_at_call 32; go_must (refine hN.mono ?_; rintro e w1 ⟨rfl, rfl⟩))
            | (refine store_R rfl 47 _ _ rfl g4 #[.string ⟨#[]⟩, .int .i64 0, .int .i64 0, .string ⟨#[]⟩, .slice none 0 0] rfl rfl 47 _ HR0.out sz0 rfl (nodA_one ZN) ?_; intro w6 hw6)
            | fail)
          have hk6 := kt_new hw6
          exact bodyPost_ret (v := .tuple #[.agg #[.string ⟨#[]⟩, .int .i64 0, .int .i64 0, .string ⟨#[]⟩, .slice none 0 0], .int .i64 0, .bool false]) (results_R3 Try.results25 _ _ g4 _ 47 _ _ _ Try.underlying47 rfl sz0 rfl rfl rfl hw6.here) rfl ⟨HC0.out.trans hk6 (fun _ _ e => e) (fun j hj e => by have := HG4.out; omega), .inl ⟨HO.out, ZN, rfl⟩⟩
        · have k1b : (kd == 1) = false := beq_eq_false_iff_ne.2 k1
          have k2b : (kd == 2) = false := beq_eq_false_iff_ne.2 k2
          have k1c : (kd != 1) = true := by simp [bne, k1b]
          have k2c : (kd != 2) = true := by simp [bne, k2b]
          clear hc
          go_enter Try.func25, Try.ntmps25
          go_upto_region 1 with fail
          rw [← hw0, ← HG4.out]
          clear hw0 hg4
          go_wp2_with (first
            | (go_at_call 32; go_must (refine hN.mono ?_; rintro e w1 ⟨rfl, rfl⟩))
            | (refine store_R rfl 47 _ _ rfl g4 #[.string ⟨#[]⟩, .int .i64 0, .int .i64 0, .string ⟨#[]⟩, .slice none 0 0] rfl rfl 47 _ HR0.out sz0 rfl (nodA_one ZN) ?_; intro w6 hw6)
            | fail)
          have hk6 := kt_new hw6
          exact bodyPost_ret (v := .tuple #[.agg #[.string ⟨#[]⟩, .int .i64 0, .int .i64 0, .string ⟨#[]⟩, .slice none 0 0], .int .i64 0, .bool false]) (results_R3 Try.results25 _ _ g4 _ 47 _ _ _ Try.underlying47 rfl sz0 rfl rfl rfl hw6.here) rfl ⟨HC0.out.trans hk6 (fun _ _ e => e) (fun j hj e => by have := HG4.out; omega), .inl ⟨HO.out, ZN, rfl⟩⟩
    · rw [if_neg hc] at HO
      have hk12 : kd = 1 ∨ kd = 2 := Classical.byContradiction fun e => hc (.inl e)
      have hv2 : ¬ 1099511627776 < v := fun e => hc (.inr e)
      have HK12 := hid hk12
      clear hc
      have HNb : Hid (at_ + 9 ≤ n) := hid (by omega)
      clear h9
      rcases hk12 with hk | hk
      · subst hk
        as_aux_lemma =>
        go_enter Try.func25, Try.ntmps25
        go_upto_region 1 with fail
        rw [← hw0, ← HG4.out]
        clear hw0 hg4
        go_upto_region 5 with (first
          | (go_at_call 32; go_must (refine hN.mono ?_; rintro e w1 ⟨rfl, rfl⟩))
          | (refine store_R rfl 47 _ _ rfl w1.heap.size #[.string ⟨#[]⟩, .int .i64 1, .int .i64 v, .string ⟨#[]⟩, .slice none 0 0] rfl rfl 47 _ (heap_alloc_new _ _) (nodA_sz ⟨⟨#[]⟩, 1, v, ⟨#[]⟩, none, [], 0⟩) rfl (nodA_one ⟨⟨#[]⟩, 1, v, ⟨#[]⟩, none, [], 0⟩) ?_; intro w2 hw2)
          | fail)
        have h12 : Chg w1 w2 No := (Chg.alloc w1 _ No).trans (kt_new hw2) (fun _ _ e => e) (fun k hk e => by omega)
        obtain ⟨g9, hg9⟩ : ∃ y, y = w1.heap.size := ⟨_, rfl⟩
        have HG9 : Hid (w2.heap[g9]? = some (.cells #[.string ⟨#[]⟩, .int .i64 1, .int .i64 v, .string ⟨#[]⟩, .slice none 0 0] 47 (0, 0))) := hid (by rw [hg9]; exact hw2.here)
        have HR2 := hid (h12.keep HR0.out (fun e => e))
        have HC2 := hid (HC0.out.tr h12)
        have HLt : Hid (g4 < g9 ∧ w.heap.size ≤ g9 ∧ g9 < w2.heap.size) := hid ⟨by rw [hg9]; exact slt HR0.out, by rw [hg9]; exact HC0.out.size, slt HG9.out⟩
        rw [← hg9]
        clear hw2 h12 hg9 hcell hN HR0 HC0
        have hT1 := HTx.out w2 (at_ + 9) 400 HC2.out (by omega) (by decide)
        have e9 : ((at_ + 9 : Nat) : Int) = (at_ : Int) + 9 := by omega
        rw [e9] at hT1
        clear e9
        cases hx1 : txtZ 400 (zs.drop (at_ + 9)) with
        | none =>
          have HO : Hid (oneZ (zs.drop at_) = none) := hid (by rw [HO.out, hx1])
          have hT : Calls Try.prog 33 #[.slice (some ⟨b, o, none⟩) n cap, .int .i64 ((at_ : Int) + 9), .int .i64 400] w2 fun e w' => e = .returned (.tuple #[.string ⟨#[]⟩, .int .i64 0, .bool false]) ∧ w' = w2 := hT1.mono (by
            rintro e w' ⟨h1, ⟨_, h2⟩ | ⟨p, r, h2, _⟩⟩
            · exact ⟨h2, h1⟩
            · rw [show ((400 : Nat) : Int) = 400 from rfl, hx1] at h2; cases h2)
          clear hx1 hT1 HTx
          go_wp2_with (first
            | (go_at_call 33; go_must (refine hT.mono ?_; rintro e w3 ⟨rfl, rfl⟩))
            | (refine store_R rfl 47 _ _ rfl g4 #[.string ⟨#[]⟩, .int .i64 0, .int .i64 0, .string ⟨#[]⟩, .slice none 0 0] rfl rfl 47 _ HR2.out sz0 rfl (nodA_one ZN) ?_; intro w6 hw6)
            | fail)
          have HC0 := HC2
          have hk6 := kt_new hw6
          exact bodyPost_ret (v := .tuple #[.agg #[.string ⟨#[]⟩, .int .i64 0, .int .i64 0, .string ⟨#[]⟩, .slice none 0 0], .int .i64 0, .bool false]) (results_R3 Try.results25 _ _ g4 _ 47 _ _ _ Try.underlying47 rfl sz0 rfl rfl rfl hw6.here) rfl ⟨HC0.out.trans hk6 (fun _ _ e => e) (fun j hj e => by have := HG4.out; omega), .inl ⟨HO.out, ZN, rfl⟩⟩
        | some x1 =>
          obtain ⟨p, r1⟩ := x1
          obtain ⟨k1, hk1⟩ : ∃ y, y = at_ + 9 + 4 + p.length := ⟨_, rfl⟩
          have HS1 := hid (txt_some (HOk.out.drop (at_ + 9)) hx1)
          have hT : Calls Try.prog 33 #[.slice (some ⟨b, o, none⟩) n cap, .int .i64 ((at_ : Int) + 9), .int .i64 400] w2 fun e w' => e = .returned (.tuple #[.string (strOf p), .int .i64 (k1 : Int), .bool true]) ∧ w' = w2 ∧ r1 = zs.drop k1 ∧ k1 ≤ n := hT1.mono (by
            rintro e w' ⟨h1, ⟨h2, _⟩ | ⟨p', r', h2, h3, h4, h5⟩⟩
            · rw [show ((400 : Nat) : Int) = 400 from rfl, hx1] at h2; cases h2
            · rw [show ((400 : Nat) : Int) = 400 from rfl, hx1] at h2; cases h2; rw [hk1]; exact ⟨h5, h1, h3, h4⟩)
          have HO2 : Hid (oneZ (zs.drop at_) = match txtZ 400 r1 with
              | none => none
              | some (q, r2) => match txtZ 136704 r2 with
                | none => none
                | some (d, r3) => some (⟨strOf p, 1, v, strOf q, none, d, 0⟩, r3)) := hid (by rw [HO.out, hx1])
          obtain ⟨pa, hpa⟩ : ∃ y, y = strOf p := ⟨_, rfl⟩
          rw [← hpa] at hT HO2
          clear hx1 hT1 HO hk1 hpa
          go_upto_region 8 with (first
            | (go_at_call 33; go_must (refine hT.mono ?_; rintro e w3 ⟨rfl, rfl, hr1, hk1⟩; have HR1 := hid hr1; clear hr1))
            | fail)
          have hT2 := HTx.out w3 k1 400 HC2.out (by omega) (by decide)
          rw [← HR1.out] at hT2
          clear hT
          cases hx2 : txtZ 400 r1 with
          | none =>
            have HO : Hid (oneZ (zs.drop at_) = none) := hid (by rw [HO2.out, hx2])
            have hT : Calls Try.prog 33 #[.slice (some ⟨b, o, none⟩) n cap, .int .i64 (k1 : Int), .int .i64 400] w3 fun e w' => e = .returned (.tuple #[.string ⟨#[]⟩, .int .i64 0, .bool false]) ∧ w' = w3 := hT2.mono (by
              rintro e w' ⟨h1, ⟨_, h2⟩ | ⟨p, r, h2, _⟩⟩
              · exact ⟨h2, h1⟩
              · rw [show ((400 : Nat) : Int) = 400 from rfl, hx2] at h2; cases h2)
            clear hx2 hT2 HTx HO2
            go_wp2_with (first
              | (go_at_call 33; go_must (refine hT.mono ?_; rintro e w5 ⟨rfl, rfl⟩))
              | (refine store_R rfl 47 _ _ rfl g4 #[.string ⟨#[]⟩, .int .i64 0, .int .i64 0, .string ⟨#[]⟩, .slice none 0 0] rfl rfl 47 _ HR2.out sz0 rfl (nodA_one ZN) ?_; intro w6 hw6)
              | fail)
            have HC0 := HC2
            have hk6 := kt_new hw6
            exact bodyPost_ret (v := .tuple #[.agg #[.string ⟨#[]⟩, .int .i64 0, .int .i64 0, .string ⟨#[]⟩, .slice none 0 0], .int .i64 0, .bool false]) (results_R3 Try.results25 _ _ g4 _ 47 _ _ _ Try.underlying47 rfl sz0 rfl rfl rfl hw6.here) rfl ⟨HC0.out.trans hk6 (fun _ _ e => e) (fun j hj e => by have := HG4.out; omega), .inl ⟨HO.out, ZN, rfl⟩⟩
          | some x2 =>
            obtain ⟨q, r2⟩ := x2
            obtain ⟨k2, hk2⟩ : ∃ y, y = k1 + 4 + q.length := ⟨_, rfl⟩
            have HS2 := hid (txt_some HS1.out.2.2.2 hx2)
            have hT : Calls Try.prog 33 #[.slice (some ⟨b, o, none⟩) n cap, .int .i64 (k1 : Int), .int .i64 400] w3 fun e w' => e = .returned (.tuple #[.string (strOf q), .int .i64 (k2 : Int), .bool true]) ∧ w' = w3 ∧ r2 = zs.drop k2 ∧ k2 ≤ n := hT2.mono (by
              rintro e w' ⟨h1, ⟨h2, _⟩ | ⟨p', r', h2, h3, h4, h5⟩⟩
              · rw [show ((400 : Nat) : Int) = 400 from rfl, hx2] at h2; cases h2
              · rw [show ((400 : Nat) : Int) = 400 from rfl, hx2] at h2; cases h2; rw [hk2]; exact ⟨h5, h1, h3, h4⟩)
            have HO3 : Hid (oneZ (zs.drop at_) = match txtZ 136704 r2 with
                | none => none
                | some (d, r3) => some (⟨pa, 1, v, strOf q, none, d, 0⟩, r3)) := hid (by rw [HO2.out, hx2])
            obtain ⟨qa, hqa⟩ : ∃ y, y = strOf q := ⟨_, rfl⟩
            rw [← hqa] at hT HO3
            clear hx2 hT2 HO2 hk2 hqa
            go_upto_region 11 with (first
              | (go_at_call 33; go_must (refine hT.mono ?_; rintro e w5 ⟨rfl, rfl, hr2, hk2⟩; have HRr2 := hid hr2; clear hr2))
              | fail)
            have hT3 := HTx.out w5 k2 136704 HC2.out (by omega) (by decide)
            rw [← HRr2.out] at hT3
            clear hT
            have hT : ∃ (D : ByteArray) (K3 : Int) (B3 : Bool), Calls Try.prog 33 #[.slice (some ⟨b, o, none⟩) n cap, .int .i64 (k2 : Int), .int .i64 136704] w5 (fun e w' => e = .returned (.tuple #[.string D, .int .i64 K3, .bool B3]) ∧ w' = w5) ∧ ((B3 = false ∧ K3 = 0 ∧ oneZ (zs.drop at_) = none) ∨ ∃ d r3 k3, B3 = true ∧ K3 = ((k3 : Nat) : Int) ∧ k3 ≤ n ∧ bytesI D = d ∧ r3 = zs.drop k3 ∧ oneZ (zs.drop at_) = some (⟨pa, 1, v, qa, none, d, 0⟩, r3)) := by
              cases hx3 : txtZ 136704 r2 with
              | none =>
                refine ⟨⟨#[]⟩, 0, false, hT3.mono (by
                  rintro e w' ⟨h1, ⟨_, h2⟩ | ⟨p, r, h2, _⟩⟩
                  · exact ⟨h2, h1⟩
                  · rw [show ((136704 : Nat) : Int) = 136704 from rfl, hx3] at h2; cases h2), .inl ⟨rfl, rfl, by rw [HO3.out, hx3]⟩⟩
              | some x3 =>
                obtain ⟨d, r3⟩ := x3
                have hd := txt_some HS2.out.2.2.2 hx3
                have hT4 := hT3
                by_cases hk3 : k2 + 4 + d.length ≤ n ∧ r3 = zs.drop (k2 + 4 + d.length)
                · refine ⟨strOf d, ((k2 + 4 + d.length : Nat) : Int), true, hT3.mono (by
                    rintro e w' ⟨h1, ⟨h2, _⟩ | ⟨p', r', h2, h3, h4, h5⟩⟩
                    · rw [show ((136704 : Nat) : Int) = 136704 from rfl, hx3] at h2; cases h2
                    · rw [show ((136704 : Nat) : Int) = 136704 from rfl, hx3] at h2; cases h2; exact ⟨h5, h1⟩), .inr ⟨d, r3, k2 + 4 + d.length, rfl, rfl, hk3.1, bytes_str hd.2.2.1, hk3.2, by rw [HO3.out, hx3]⟩⟩
                · exfalso
                  have h1 := congrArg List.length hd.1
                  rw [List.length_append, List.length_append, numB_len] at h1
                  have h2 := congrArg List.length HRr2.out
                  rw [List.length_drop, ← HNn.out] at h2
                  refine hk3 ⟨by omega, ?_⟩
                  have h3 : r2.drop (4 + d.length) = r3 := by
                    rw [hd.1, ← List.append_assoc, List.drop_left' (by rw [List.length_append, numB_len])]
                  rw [← h3, HRr2.out, List.drop_drop]
                  congr 1
                  omega
            obtain ⟨D, K3, B3, hT, hEnd⟩ := hT
            have HEnd := hid hEnd
            have HL9 : Hid (∀ W, Chg w5 W (· = g9) → W.heap[g4]? = w5.heap[g4]?) := hid (fun W hW => hW.block g4 (slt HR2.out) (fun e => by have := HLt.out.1; omega))
            clear hT3 HTx HO3 hEnd HS1 HS2
            go_upto_region 12 with (first
              | (go_at_call 33; go_must (refine hT.mono ?_; rintro e w6 ⟨rfl, rfl⟩))
              | fail)
            clear hT
            go_upto_region 13 with (first
              | (refine store_one rfl 9 _ _ rfl g9 0 rfl (.string pa) rfl rfl szSr 47 _ HG9.out (by simp) ?_)
              | fail)
            obtain ⟨w7, hw7⟩ : ∃ y, y = w6.setCell ⟨g9, 0, none⟩ (.string pa) := ⟨_, rfl⟩
            rw [← hw7]
            have hc7 : Chg w6 w7 (· = g9) := by rw [hw7]; exact Chg.setCell
            have HG7 : Hid (w7.heap[g9]? = some (.cells #[.string pa, .int .i64 1, .int .i64 v, .string ⟨#[]⟩, .slice none 0 0] 47 (0, 0))) := hid (by rw [hw7, heap_setCell_same w6 g9 0 _ _ _ HG9.out]; rfl)
            clear hw7
            go_upto_region 14 with (first
              | (refine store_one rfl 9 _ _ rfl g9 3 rfl (.string qa) rfl rfl szSr 47 _ HG7.out (by simp) ?_)
              | fail)
            obtain ⟨w8, hw8⟩ : ∃ y, y = w7.setCell ⟨g9, 3, none⟩ (.string qa) := ⟨_, rfl⟩
            rw [← hw8]
            have hc8 : Chg w6 w8 (· = g9) := hc7.trans (by rw [hw8]; exact Chg.setCell) (fun _ _ e => e) (fun _ _ e => e)
            have HG8 : Hid (w8.heap[g9]? = some (.cells #[.string pa, .int .i64 1, .int .i64 v, .string qa, .slice none 0 0] 47 (0, 0))) := hid (by rw [hw8, heap_setCell_same w7 g9 3 _ _ _ HG7.out]; rfl)
            clear hw8 hc7
            obtain ⟨cD, w9, hcv, hb9, hc9, hA9⟩ := conv_new D w8
            have HCv := hid hcv
            have HG9b := hid (hc9.keep HG8.out (fun e => e))
            obtain ⟨gD, hgD⟩ : ∃ y, y = w8.heap.size := ⟨_, rfl⟩
            rw [← hgD] at HCv hb9 hA9
            have HgD : Hid (g9 < gD ∧ w.heap.size ≤ gD) := hid ⟨by rw [hgD]; exact slt HG8.out, by rw [hgD]; have h1 := slt HG8.out; have := HLt.out; omega⟩
            have HB9 := hid hb9
            have HA9 := hid hA9
            obtain ⟨lD, hlD⟩ : ∃ y, y = D.size := ⟨_, rfl⟩
            rw [← hlD] at HCv
            have HlD := hid hlD
            clear hcv hb9 hA9 hlD hgD
            go_upto_region 15 with (first
              | (refine conv_G (by rfl) 9 29 _ rfl _ _ _ rfl HCv.out ?_)
              | (refine store_one rfl 29 _ _ rfl g9 4 rfl (.slice (some ⟨gD, 0, none⟩) lD cD) rfl rfl szBy 47 _ HG9b.out (by simp) ?_)
              | fail)
            obtain ⟨wa, hwa⟩ : ∃ y, y = w9.setCell ⟨g9, 4, none⟩ (.slice (some ⟨gD, 0, none⟩) lD cD) := ⟨_, rfl⟩
            rw [← hwa]
            have hca : Chg w9 wa (· = g9) := by rw [hwa]; exact Chg.setCell
            have HGa : Hid (wa.heap[g9]? = some (.cells #[.string pa, .int .i64 1, .int .i64 v, .string qa, .slice (some ⟨gD, 0, none⟩) lD cD] 47 (0, 0))) := hid (by rw [hwa, heap_setCell_same w9 g9 4 _ _ _ HG9b.out]; rfl)
            have hall : Chg w6 wa (· = g9) := (hc8.trans hc9 (fun _ _ e => e) (fun _ _ e => e.elim)).trans hca (fun _ _ e => e) (fun _ _ e => e)
            have HR4 : Hid (wa.heap[g4]? = some (.cells #[.string ⟨#[]⟩, .int .i64 0, .int .i64 0, .string ⟨#[]⟩, .slice none 0 0] 47 (0, 0))) := hid (by rw [HL9.out wa hall]; exact HR2.out)
            have HCa : Hid (Chg w wa No) := hid (HC2.out.trans hall (fun _ _ e => e) (fun j hj e => by have := HLt.out; omega))
            have HBa : Hid (BytesAt wa (some ⟨gD, 0, none⟩) (bytesI D)) := hid (HB9.out.keep hca (fun b o e f => by cases e; have := HgD.out; omega))
            have HAa : Hid (∃ A f, wa.heap[gD]? = some (.cells A 5 f)) := hid (by obtain ⟨A, f, hA⟩ := HA9.out; exact ⟨A, f, hca.keep hA (fun f => by have := HgD.out; omega)⟩)
            have sz := nodA_sz ⟨pa, 1, v, qa, some ⟨gD, 0, none⟩, bytesI D, cD⟩
            clear hwa hca hall hc9 hc8
            go_wp2_with (first
              | (refine load_R rfl 47 _ rfl g9 rfl 47 #[.string pa, .int .i64 1, .int .i64 v, .string qa, .slice (some ⟨gD, 0, none⟩) lD cD] _ HGa.out Try.underlying47 rfl sz ?_)
              | (refine store_R rfl 47 _ _ rfl g4 #[.string pa, .int .i64 1, .int .i64 v, .string qa, .slice (some ⟨gD, 0, none⟩) lD cD] rfl rfl 47 _ HR4.out sz rfl (by simp [Value.oneCell']) ?_; intro wb hwb)
              | fail)
            have hkb := kt_new hwb
            have hlen : lD = (bytesI D).length := by rw [HlD.out, bytesI_len]
            have hAg : (#[.string pa, .int .i64 1, .int .i64 v, .string qa, .slice (some ⟨gD, 0, none⟩) lD cD] : Array Value) = nodA ⟨pa, 1, v, qa, some ⟨gD, 0, none⟩, bytesI D, cD⟩ := by unfold nodA; rw [hlen]
            have hCb : Chg w wb No := HCa.out.trans hkb (fun _ _ e => e) (fun j hj e => by have := HG4.out; omega)
            refine bodyPost_ret (v := .tuple #[.agg #[.string pa, .int .i64 1, .int .i64 v, .string qa, .slice (some ⟨gD, 0, none⟩) lD cD], .int .i64 K3, .bool B3]) (results_R3 Try.results25 _ _ g4 _ 47 _ _ _ Try.underlying47 rfl sz rfl rfl rfl hwb.here) rfl ⟨hCb, ?_⟩
            rcases HEnd.out with ⟨rfl, rfl, h3⟩ | ⟨d, r3, k3, rfl, rfl, h3, rfl, h5, h6⟩
            · exact .inl ⟨h3, _, by rw [hAg]⟩
            · exact .inr ⟨_, r3, some ⟨gD, 0, none⟩, cD, k3, h6, h5, by rw [← HNn.out]; exact h3, by rw [hAg], HBa.out.keep hkb (fun b o e f => by cases e; have := HgD.out; have := HLt.out; omega), fun g o e => by
                cases e
                obtain ⟨A, f, hA⟩ := HAa.out
                exact ⟨HgD.out.2, A, f, hkb.keep hA (fun f => by have := HgD.out; have := HLt.out; omega)⟩⟩
      · subst hk
        as_aux_lemma =>
        go_enter Try.func25, Try.ntmps25
        go_upto_region 1 with fail
        rw [← hw0, ← HG4.out]
        clear hw0 hg4
        go_upto_region 5 with (first
          | (go_at_call 32; go_must (refine hN.mono ?_; rintro e w1 ⟨rfl, rfl⟩))
          | (refine store_R rfl 47 _ _ rfl w1.heap.size #[.string ⟨#[]⟩, .int .i64 2, .int .i64 v, .string ⟨#[]⟩, .slice none 0 0] rfl rfl 47 _ (heap_alloc_new _ _) (nodA_sz ⟨⟨#[]⟩, 2, v, ⟨#[]⟩, none, [], 0⟩) rfl (nodA_one ⟨⟨#[]⟩, 2, v, ⟨#[]⟩, none, [], 0⟩) ?_; intro w2 hw2)
          | fail)
        have h12 : Chg w1 w2 No := (Chg.alloc w1 _ No).trans (kt_new hw2) (fun _ _ e => e) (fun k hk e => by omega)
        obtain ⟨g9, hg9⟩ : ∃ y, y = w1.heap.size := ⟨_, rfl⟩
        have HG9 : Hid (w2.heap[g9]? = some (.cells #[.string ⟨#[]⟩, .int .i64 2, .int .i64 v, .string ⟨#[]⟩, .slice none 0 0] 47 (0, 0))) := hid (by rw [hg9]; exact hw2.here)
        have HR2 := hid (h12.keep HR0.out (fun e => e))
        have HC2 := hid (HC0.out.tr h12)
        have HLt : Hid (g4 < g9 ∧ w.heap.size ≤ g9 ∧ g9 < w2.heap.size) := hid ⟨by rw [hg9]; exact slt HR0.out, by rw [hg9]; exact HC0.out.size, slt HG9.out⟩
        rw [← hg9]
        clear hw2 h12 hg9 hcell hN HR0 HC0
        have hT1 := HTx.out w2 (at_ + 9) 400 HC2.out (by omega) (by decide)
        have e9 : ((at_ + 9 : Nat) : Int) = (at_ : Int) + 9 := by omega
        rw [e9] at hT1
        clear e9
        cases hx1 : txtZ 400 (zs.drop (at_ + 9)) with
        | none =>
          have HO : Hid (oneZ (zs.drop at_) = none) := hid (by rw [HO.out, hx1])
          have hT : Calls Try.prog 33 #[.slice (some ⟨b, o, none⟩) n cap, .int .i64 ((at_ : Int) + 9), .int .i64 400] w2 fun e w' => e = .returned (.tuple #[.string ⟨#[]⟩, .int .i64 0, .bool false]) ∧ w' = w2 := hT1.mono (by
            rintro e w' ⟨h1, ⟨_, h2⟩ | ⟨p, r, h2, _⟩⟩
            · exact ⟨h2, h1⟩
            · rw [show ((400 : Nat) : Int) = 400 from rfl, hx1] at h2; cases h2)
          clear hx1 hT1 HTx
          go_wp2_with (first
            | (go_at_call 33; go_must (refine hT.mono ?_; rintro e w3 ⟨rfl, rfl⟩))
            | (refine store_R rfl 47 _ _ rfl g4 #[.string ⟨#[]⟩, .int .i64 0, .int .i64 0, .string ⟨#[]⟩, .slice none 0 0] rfl rfl 47 _ HR2.out sz0 rfl (nodA_one ZN) ?_; intro w6 hw6)
            | fail)
          have HC0 := HC2
          have hk6 := kt_new hw6
          exact bodyPost_ret (v := .tuple #[.agg #[.string ⟨#[]⟩, .int .i64 0, .int .i64 0, .string ⟨#[]⟩, .slice none 0 0], .int .i64 0, .bool false]) (results_R3 Try.results25 _ _ g4 _ 47 _ _ _ Try.underlying47 rfl sz0 rfl rfl rfl hw6.here) rfl ⟨HC0.out.trans hk6 (fun _ _ e => e) (fun j hj e => by have := HG4.out; omega), .inl ⟨HO.out, ZN, rfl⟩⟩
        | some x1 =>
          obtain ⟨p, r1⟩ := x1
          obtain ⟨k1, hk1⟩ : ∃ y, y = at_ + 9 + 4 + p.length := ⟨_, rfl⟩
          have HS1 := hid (txt_some (HOk.out.drop (at_ + 9)) hx1)
          have hT : Calls Try.prog 33 #[.slice (some ⟨b, o, none⟩) n cap, .int .i64 ((at_ : Int) + 9), .int .i64 400] w2 fun e w' => e = .returned (.tuple #[.string (strOf p), .int .i64 (k1 : Int), .bool true]) ∧ w' = w2 ∧ r1 = zs.drop k1 ∧ k1 ≤ n := hT1.mono (by
            rintro e w' ⟨h1, ⟨h2, _⟩ | ⟨p', r', h2, h3, h4, h5⟩⟩
            · rw [show ((400 : Nat) : Int) = 400 from rfl, hx1] at h2; cases h2
            · rw [show ((400 : Nat) : Int) = 400 from rfl, hx1] at h2; cases h2; rw [hk1]; exact ⟨h5, h1, h3, h4⟩)
          have HO2 : Hid (oneZ (zs.drop at_) = match txtZ 400 r1 with
              | none => none
              | some (q, r2) => match txtZ 136704 r2 with
                | none => none
                | some (d, r3) => some (⟨strOf p, 2, v, strOf q, none, d, 0⟩, r3)) := hid (by rw [HO.out, hx1])
          obtain ⟨pa, hpa⟩ : ∃ y, y = strOf p := ⟨_, rfl⟩
          rw [← hpa] at hT HO2
          clear hx1 hT1 HO hk1 hpa
          go_upto_region 8 with (first
            | (go_at_call 33; go_must (refine hT.mono ?_; rintro e w3 ⟨rfl, rfl, hr1, hk1⟩; have HR1 := hid hr1; clear hr1))
            | fail)
          have hT2 := HTx.out w3 k1 400 HC2.out (by omega) (by decide)
          rw [← HR1.out] at hT2
          clear hT
          cases hx2 : txtZ 400 r1 with
          | none =>
            have HO : Hid (oneZ (zs.drop at_) = none) := hid (by rw [HO2.out, hx2])
            have hT : Calls Try.prog 33 #[.slice (some ⟨b, o, none⟩) n cap, .int .i64 (k1 : Int), .int .i64 400] w3 fun e w' => e = .returned (.tuple #[.string ⟨#[]⟩, .int .i64 0, .bool false]) ∧ w' = w3 := hT2.mono (by
              rintro e w' ⟨h1, ⟨_, h2⟩ | ⟨p, r, h2, _⟩⟩
              · exact ⟨h2, h1⟩
              · rw [show ((400 : Nat) : Int) = 400 from rfl, hx2] at h2; cases h2)
            clear hx2 hT2 HTx HO2
            go_wp2_with (first
              | (go_at_call 33; go_must (refine hT.mono ?_; rintro e w5 ⟨rfl, rfl⟩))
              | (refine store_R rfl 47 _ _ rfl g4 #[.string ⟨#[]⟩, .int .i64 0, .int .i64 0, .string ⟨#[]⟩, .slice none 0 0] rfl rfl 47 _ HR2.out sz0 rfl (nodA_one ZN) ?_; intro w6 hw6)
              | fail)
            have HC0 := HC2
            have hk6 := kt_new hw6
            exact bodyPost_ret (v := .tuple #[.agg #[.string ⟨#[]⟩, .int .i64 0, .int .i64 0, .string ⟨#[]⟩, .slice none 0 0], .int .i64 0, .bool false]) (results_R3 Try.results25 _ _ g4 _ 47 _ _ _ Try.underlying47 rfl sz0 rfl rfl rfl hw6.here) rfl ⟨HC0.out.trans hk6 (fun _ _ e => e) (fun j hj e => by have := HG4.out; omega), .inl ⟨HO.out, ZN, rfl⟩⟩
          | some x2 =>
            obtain ⟨q, r2⟩ := x2
            obtain ⟨k2, hk2⟩ : ∃ y, y = k1 + 4 + q.length := ⟨_, rfl⟩
            have HS2 := hid (txt_some HS1.out.2.2.2 hx2)
            have hT : Calls Try.prog 33 #[.slice (some ⟨b, o, none⟩) n cap, .int .i64 (k1 : Int), .int .i64 400] w3 fun e w' => e = .returned (.tuple #[.string (strOf q), .int .i64 (k2 : Int), .bool true]) ∧ w' = w3 ∧ r2 = zs.drop k2 ∧ k2 ≤ n := hT2.mono (by
              rintro e w' ⟨h1, ⟨h2, _⟩ | ⟨p', r', h2, h3, h4, h5⟩⟩
              · rw [show ((400 : Nat) : Int) = 400 from rfl, hx2] at h2; cases h2
              · rw [show ((400 : Nat) : Int) = 400 from rfl, hx2] at h2; cases h2; rw [hk2]; exact ⟨h5, h1, h3, h4⟩)
            have HO3 : Hid (oneZ (zs.drop at_) = match txtZ 136704 r2 with
                | none => none
                | some (d, r3) => some (⟨pa, 2, v, strOf q, none, d, 0⟩, r3)) := hid (by rw [HO2.out, hx2])
            obtain ⟨qa, hqa⟩ : ∃ y, y = strOf q := ⟨_, rfl⟩
            rw [← hqa] at hT HO3
            clear hx2 hT2 HO2 hk2 hqa
            go_upto_region 11 with (first
              | (go_at_call 33; go_must (refine hT.mono ?_; rintro e w5 ⟨rfl, rfl, hr2, hk2⟩; have HRr2 := hid hr2; clear hr2))
              | fail)
            have hT3 := HTx.out w5 k2 136704 HC2.out (by omega) (by decide)
            rw [← HRr2.out] at hT3
            clear hT
            have hT : ∃ (D : ByteArray) (K3 : Int) (B3 : Bool), Calls Try.prog 33 #[.slice (some ⟨b, o, none⟩) n cap, .int .i64 (k2 : Int), .int .i64 136704] w5 (fun e w' => e = .returned (.tuple #[.string D, .int .i64 K3, .bool B3]) ∧ w' = w5) ∧ ((B3 = false ∧ K3 = 0 ∧ oneZ (zs.drop at_) = none) ∨ ∃ d r3 k3, B3 = true ∧ K3 = ((k3 : Nat) : Int) ∧ k3 ≤ n ∧ bytesI D = d ∧ r3 = zs.drop k3 ∧ oneZ (zs.drop at_) = some (⟨pa, 2, v, qa, none, d, 0⟩, r3)) := by
              cases hx3 : txtZ 136704 r2 with
              | none =>
                refine ⟨⟨#[]⟩, 0, false, hT3.mono (by
                  rintro e w' ⟨h1, ⟨_, h2⟩ | ⟨p, r, h2, _⟩⟩
                  · exact ⟨h2, h1⟩
                  · rw [show ((136704 : Nat) : Int) = 136704 from rfl, hx3] at h2; cases h2), .inl ⟨rfl, rfl, by rw [HO3.out, hx3]⟩⟩
              | some x3 =>
                obtain ⟨d, r3⟩ := x3
                have hd := txt_some HS2.out.2.2.2 hx3
                have hT4 := hT3
                by_cases hk3 : k2 + 4 + d.length ≤ n ∧ r3 = zs.drop (k2 + 4 + d.length)
                · refine ⟨strOf d, ((k2 + 4 + d.length : Nat) : Int), true, hT3.mono (by
                    rintro e w' ⟨h1, ⟨h2, _⟩ | ⟨p', r', h2, h3, h4, h5⟩⟩
                    · rw [show ((136704 : Nat) : Int) = 136704 from rfl, hx3] at h2; cases h2
                    · rw [show ((136704 : Nat) : Int) = 136704 from rfl, hx3] at h2; cases h2; exact ⟨h5, h1⟩), .inr ⟨d, r3, k2 + 4 + d.length, rfl, rfl, hk3.1, bytes_str hd.2.2.1, hk3.2, by rw [HO3.out, hx3]⟩⟩
                · exfalso
                  have h1 := congrArg List.length hd.1
                  rw [List.length_append, List.length_append, numB_len] at h1
                  have h2 := congrArg List.length HRr2.out
                  rw [List.length_drop, ← HNn.out] at h2
                  refine hk3 ⟨by omega, ?_⟩
                  have h3 : r2.drop (4 + d.length) = r3 := by
                    rw [hd.1, ← List.append_assoc, List.drop_left' (by rw [List.length_append, numB_len])]
                  rw [← h3, HRr2.out, List.drop_drop]
                  congr 1
                  omega
            obtain ⟨D, K3, B3, hT, hEnd⟩ := hT
            have HEnd := hid hEnd
            have HL9 : Hid (∀ W, Chg w5 W (· = g9) → W.heap[g4]? = w5.heap[g4]?) := hid (fun W hW => hW.block g4 (slt HR2.out) (fun e => by have := HLt.out.1; omega))
            clear hT3 HTx HO3 hEnd HS1 HS2
            go_upto_region 12 with (first
              | (go_at_call 33; go_must (refine hT.mono ?_; rintro e w6 ⟨rfl, rfl⟩))
              | fail)
            clear hT
            go_upto_region 13 with (first
              | (refine store_one rfl 9 _ _ rfl g9 0 rfl (.string pa) rfl rfl szSr 47 _ HG9.out (by simp) ?_)
              | fail)
            obtain ⟨w7, hw7⟩ : ∃ y, y = w6.setCell ⟨g9, 0, none⟩ (.string pa) := ⟨_, rfl⟩
            rw [← hw7]
            have hc7 : Chg w6 w7 (· = g9) := by rw [hw7]; exact Chg.setCell
            have HG7 : Hid (w7.heap[g9]? = some (.cells #[.string pa, .int .i64 2, .int .i64 v, .string ⟨#[]⟩, .slice none 0 0] 47 (0, 0))) := hid (by rw [hw7, heap_setCell_same w6 g9 0 _ _ _ HG9.out]; rfl)
            clear hw7
            go_upto_region 14 with (first
              | (refine store_one rfl 9 _ _ rfl g9 3 rfl (.string qa) rfl rfl szSr 47 _ HG7.out (by simp) ?_)
              | fail)
            obtain ⟨w8, hw8⟩ : ∃ y, y = w7.setCell ⟨g9, 3, none⟩ (.string qa) := ⟨_, rfl⟩
            rw [← hw8]
            have hc8 : Chg w6 w8 (· = g9) := hc7.trans (by rw [hw8]; exact Chg.setCell) (fun _ _ e => e) (fun _ _ e => e)
            have HG8 : Hid (w8.heap[g9]? = some (.cells #[.string pa, .int .i64 2, .int .i64 v, .string qa, .slice none 0 0] 47 (0, 0))) := hid (by rw [hw8, heap_setCell_same w7 g9 3 _ _ _ HG7.out]; rfl)
            clear hw8 hc7
            obtain ⟨cD, w9, hcv, hb9, hc9, hA9⟩ := conv_new D w8
            have HCv := hid hcv
            have HG9b := hid (hc9.keep HG8.out (fun e => e))
            obtain ⟨gD, hgD⟩ : ∃ y, y = w8.heap.size := ⟨_, rfl⟩
            rw [← hgD] at HCv hb9 hA9
            have HgD : Hid (g9 < gD ∧ w.heap.size ≤ gD) := hid ⟨by rw [hgD]; exact slt HG8.out, by rw [hgD]; have h1 := slt HG8.out; have := HLt.out; omega⟩
            have HB9 := hid hb9
            have HA9 := hid hA9
            obtain ⟨lD, hlD⟩ : ∃ y, y = D.size := ⟨_, rfl⟩
            rw [← hlD] at HCv
            have HlD := hid hlD
            clear hcv hb9 hA9 hlD hgD
            go_upto_region 15 with (first
              | (refine conv_G (by rfl) 9 29 _ rfl _ _ _ rfl HCv.out ?_)
              | (refine store_one rfl 29 _ _ rfl g9 4 rfl (.slice (some ⟨gD, 0, none⟩) lD cD) rfl rfl szBy 47 _ HG9b.out (by simp) ?_)
              | fail)
            obtain ⟨wa, hwa⟩ : ∃ y, y = w9.setCell ⟨g9, 4, none⟩ (.slice (some ⟨gD, 0, none⟩) lD cD) := ⟨_, rfl⟩
            rw [← hwa]
            have hca : Chg w9 wa (· = g9) := by rw [hwa]; exact Chg.setCell
            have HGa : Hid (wa.heap[g9]? = some (.cells #[.string pa, .int .i64 2, .int .i64 v, .string qa, .slice (some ⟨gD, 0, none⟩) lD cD] 47 (0, 0))) := hid (by rw [hwa, heap_setCell_same w9 g9 4 _ _ _ HG9b.out]; rfl)
            have hall : Chg w6 wa (· = g9) := (hc8.trans hc9 (fun _ _ e => e) (fun _ _ e => e.elim)).trans hca (fun _ _ e => e) (fun _ _ e => e)
            have HR4 : Hid (wa.heap[g4]? = some (.cells #[.string ⟨#[]⟩, .int .i64 0, .int .i64 0, .string ⟨#[]⟩, .slice none 0 0] 47 (0, 0))) := hid (by rw [HL9.out wa hall]; exact HR2.out)
            have HCa : Hid (Chg w wa No) := hid (HC2.out.trans hall (fun _ _ e => e) (fun j hj e => by have := HLt.out; omega))
            have HBa : Hid (BytesAt wa (some ⟨gD, 0, none⟩) (bytesI D)) := hid (HB9.out.keep hca (fun b o e f => by cases e; have := HgD.out; omega))
            have HAa : Hid (∃ A f, wa.heap[gD]? = some (.cells A 5 f)) := hid (by obtain ⟨A, f, hA⟩ := HA9.out; exact ⟨A, f, hca.keep hA (fun f => by have := HgD.out; omega)⟩)
            have sz := nodA_sz ⟨pa, 2, v, qa, some ⟨gD, 0, none⟩, bytesI D, cD⟩
            clear hwa hca hall hc9 hc8
            go_wp2_with (first
              | (refine load_R rfl 47 _ rfl g9 rfl 47 #[.string pa, .int .i64 2, .int .i64 v, .string qa, .slice (some ⟨gD, 0, none⟩) lD cD] _ HGa.out Try.underlying47 rfl sz ?_)
              | (refine store_R rfl 47 _ _ rfl g4 #[.string pa, .int .i64 2, .int .i64 v, .string qa, .slice (some ⟨gD, 0, none⟩) lD cD] rfl rfl 47 _ HR4.out sz rfl (by simp [Value.oneCell']) ?_; intro wb hwb)
              | fail)
            have hkb := kt_new hwb
            have hlen : lD = (bytesI D).length := by rw [HlD.out, bytesI_len]
            have hAg : (#[.string pa, .int .i64 2, .int .i64 v, .string qa, .slice (some ⟨gD, 0, none⟩) lD cD] : Array Value) = nodA ⟨pa, 2, v, qa, some ⟨gD, 0, none⟩, bytesI D, cD⟩ := by unfold nodA; rw [hlen]
            have hCb : Chg w wb No := HCa.out.trans hkb (fun _ _ e => e) (fun j hj e => by have := HG4.out; omega)
            refine bodyPost_ret (v := .tuple #[.agg #[.string pa, .int .i64 2, .int .i64 v, .string qa, .slice (some ⟨gD, 0, none⟩) lD cD], .int .i64 K3, .bool B3]) (results_R3 Try.results25 _ _ g4 _ 47 _ _ _ Try.underlying47 rfl sz rfl rfl rfl hwb.here) rfl ⟨hCb, ?_⟩
            rcases HEnd.out with ⟨rfl, rfl, h3⟩ | ⟨d, r3, k3, rfl, rfl, h3, rfl, h5, h6⟩
            · exact .inl ⟨h3, _, by rw [hAg]⟩
            · exact .inr ⟨_, r3, some ⟨gD, 0, none⟩, cD, k3, h6, h5, by rw [← HNn.out]; exact h3, by rw [hAg], HBa.out.keep hkb (fun b o e f => by cases e; have := HgD.out; have := HLt.out; omega), fun g o e => by
                cases e
                obtain ⟨A, f, hA⟩ := HAa.out
                exact ⟨HgD.out.2, A, f, hkb.keep hA (fun f => by have := HgD.out; have := HLt.out; omega)⟩⟩
end Go.Proofs.Ytiakfgplhdbaeaa
