/-
  package plain: the calls of the statements' example.
-/
import Derived.Test.YtbkddnibcpjkgaaDoorQT
namespace Go.Proofs.YtbkddnibcpjkgaaDoor
open Go.RowKit

def sZ : ByteArray := ⟨#[]⟩
/-- What is known of it between the calls: where it lies, and that the laid variables lie below. -/
structure KQ (w0 w : World) (q : PC) (s : PSt) : Prop where
  pl : IsPl w q s
  ch : Chg w0 w No
  mb : w0.heap.size ≤ q.mb
  bl : ∀ c, q.nc 1 = some c → ∀ k, BlkN c k → w0.heap.size ≤ k
theorem ML.keep {w w' : World} {ks : Nat → Prop} (h : ML w) (hc : Chg w w' ks) (hn : ∀ k, ks k → w.heap.size ≤ k) : ML w' := by
  obtain ⟨m, h⟩ := h
  refine ⟨m, ?_⟩
  have hlt := World.block_lt_of_cell? _ _ h
  unfold World.cell? at h ⊢
  rw [hc.block _ hlt (fun e => by have := hn _ e; exact absurd hlt (by omega))]
  exact h
theorem names_le {x : ByteArray} (hx : x ∈ [nA]) : x.size ≤ 1000 := by
  obtain rfl : x = nA := by simpa using hx
  decide
theorem names_le2 {x : ByteArray} (hx : x ∈ [nA, nB]) : x.size ≤ 1000 := by
  rcases (by simpa using hx : x = nA ∨ x = nB) with rfl | rfl
  · decide
  · decide
theorem ansS_ok : (ansS 2 (newNd 1 5)).size = 10 ∧ (ansS 2 (newNd 1 5)).all (·.oneCell') = true := by
  rw [ans_K0]
  exact ⟨rfl, by simp [Value.oneCell']⟩
theorem ansE_ok (e : Int) : (ansE e).size = 10 ∧ (ansE e).all (·.oneCell') = true := ⟨rfl, by simp [ansE, Value.oneCell']⟩
theorem ansD_ok (e : Int) (a : Option Addr) (n m : Nat) : (ansD e a n m).size = 10 ∧ (ansD e a n m).all (·.oneCell') = true := ⟨rfl, by simp [ansD, Value.oneCell']⟩

theorem k_create {w0 w : World} {q : PC} (h : KQ w0 w q K0) (hu : UB w0) (hm : ML w0) :
    Calls Tryd.prog 8 #[.pointer (some ⟨q.p, 0, none⟩), .agg (opA 1 pA sZ 0 0 none 0 0 5 0)] w fun e w' => e = .returned (.agg (ansS 2 (newNd 1 5))) ∧ ∃ q', q'.p = q.p ∧ IsPl w' q' K1 ∧ (∀ c2, q'.nc 2 = some c2 → ∀ k, BlkN c2 k → w0.heap.size ≤ k) ∧ Chg w0 w' No := by
  have hP := h.pl
  obtain ⟨c, x, hqc, hsx, hN, _, _⟩ := hP.at_ (i := 1) (by rw [K0_1]; intro e; cases e)
  rw [K0_1] at hsx
  cases hsx
  have hks : ∀ k, (k = q.mb ∨ BlkN c k) → k < w.heap.size := fun k hk => by
    rcases hk with rfl | hk
    · exact hP.mp.lt
    · exact hN.lt hk
  refine (do_create (q := q) pA sZ 0 0 none 0 0 5 0 w (fun A w' => A = ansS 2 (newNd 1 5) ∧ ∃ q', q'.p = q.p ∧ IsPl w' q' K1 ∧ ∀ c2, q'.nc 2 = some c2 → ∀ k, BlkN c2 k → w0.heap.size ≤ k) (fun k => k = q.mb ∨ BlkN c k) hks (hu.keep h.ch (fun e => e)) (hm.keep h.ch (fun _ e => e.elim)) (by kernel_rfl) (by decide) (by decide) (by rw [split_A]) ?_ ?_).mono ?_
  · intro W a ls hc hd hl
    obtain rfl := ls_A hd
    have hg := makeOne_good (c := c) (x := newNd 2 0) [nA] a 1 5 0 W (hP.call hc) okK0 hl (by decide) (fun _ => names_le) lastE_K0 hqc K0_1 (by decide) rfl (by rw [nodes_K0]; decide) place_K0 (Nat.zero_le _) (by decide) (by decide) (by rw [free_K0]; decide) (by rw [free_K0]; decide) (by rw [free_K0]; rfl)
    rw [free_K0] at hg
    refine hg.mono ?_
    rintro e w' ⟨⟨q', rfl, hp, hq, hb⟩, hc'⟩
    refine ⟨_, rfl, ansS_ok.1, ansS_ok.2, ⟨rfl, q', hq, hp, fun c2 e2 k hk => ?_⟩, hc'⟩
    have := hb c2 e2 k hk
    have := (h.ch.tr hc).size
    omega
  · rintro A w1 w2 r o ⟨rfl, q', h1, h2, h3⟩ ho hp
    exact ⟨rfl, q', h1, h2.putR hp ho, h3⟩
  · rintro e w' ⟨A, rfl, ⟨rfl, q', h1, h2, h3⟩, hc⟩
    exact ⟨rfl, q', h1, h2, h3, h.ch.trans hc (fun _ _ e => e) (fun j hj e => by
      rcases e with rfl | e
      · have := h.mb; omega
      · have := h.bl c hqc j e; omega)⟩

theorem k_write {w0 w : World} {q : PC} (gd : Nat) (h : IsPl w q K1) (hb : ∀ c2, q.nc 2 = some c2 → ∀ k, BlkN c2 k → w0.heap.size ≤ k) (hch : Chg w0 w No) (hu : UB w0) (hm : ML w0) (t : TypeId) (fr : Nat × Nat) (hd : w.heap[gd]? = some (.cells (SA dX) t fr)) :
    Calls Tryd.prog 8 #[.pointer (some ⟨q.p, 0, none⟩), .agg (opA 7 pA sZ 130 0 (some ⟨gd, 0, none⟩) 3 3 0 0)] w fun e w' => e = .returned (.agg (ansE 0)) ∧ ∃ q', q'.p = q.p ∧ IsPl w' q' K2 ∧ Chg w0 w' No ∧ Chg w w' (fun k => ∃ c, q.nc 2 = some c ∧ BlkN c k) := by
  obtain ⟨c, x, hqc, hsx, hN, _, _⟩ := h.at_ (i := 2) (by rw [K1_2]; intro e; cases e)
  rw [K1_2] at hsx
  cases hsx
  refine (do_write (q := q) pA sZ 130 0 (some ⟨gd, 0, none⟩) 3 3 0 0 2 w (fun A w' => A = ansE 0 ∧ ∃ q', q'.p = q.p ∧ IsPl w' q' K2) (BlkN c) (fun k hk => hN.lt hk) (hu.keep hch (fun e => e)) (hm.keep hch (fun _ e => e.elim)) (by kernel_rfl) (by decide) (by decide) (by rw [split_A]) ?_ ?_ ?_).mono ?_
  · intro W a ls hc hd hl
    obtain rfl := ls_A hd
    have hg := walk_any [nA] a ([nA] : List ByteArray).length W (h.call hc) okK1 hl (by decide) (fun _ => names_le)
    rw [walk_K1] at hg
    exact hg
  · intro W hc
    have hW := h.call hc
    refine (doAt_write (c := c) (x := newNd 1 5) 2 pA sZ 130 0 (some ⟨gd, 0, none⟩) 3 3 0 0 W 0 (fun w' => ∃ q', q'.p = q.p ∧ IsPl w' q' K2) (BlkN c) (fun k hk => (hN.call hc).lt hk) hW hqc K1_2 (by decide) ?_ ?_).mono ?_
    · intro W2 hc2
      have hW2 := hW.call hc2
      have hN2 := (hN.call hc).call hc2
      refine (write_one (s := K1) (c := c) (x := newNd 1 5) 1 2 Zs dX gd 0 3 W2 hW2 hN2 (by decide) (by decide) (by decide) rfl rfl room_K1 ?_ (by decide)).mono ?_
      · intro W3 hc3 j v hj
        have hcell : W3.heap[gd]? = some (.cells (SA dX) t fr) := ((hc.tr hc2).tr hc3).keep hd (fun e => e)
        rw [addr_add]
        refine (cell_of_row _ _ _ _ _ _ hcell).trans ?_
        show (SA dX)[0 + j]? = some v
        rw [Nat.zero_add]
        unfold SA
        simpa using hj
      · rintro e w' ⟨rfl, hn, hc'⟩
        exact ⟨rfl, ⟨q.put 2 c, rfl, hW2.turn hqc hn rfl rfl rfl rfl (.inl rfl) hc'⟩, hc'⟩
    · rintro w1 w2 r o ⟨q', h1, h2⟩ ho hp
      exact ⟨q', h1, h2.putR hp ho⟩
    · rintro e w' ⟨rfl, hr, hc'⟩
      exact ⟨_, rfl, (ansE_ok 0).1, (ansE_ok 0).2, ⟨rfl, hr⟩, hc'⟩
  · rintro A w1 w2 r o ⟨rfl, q', h1, h2⟩ ho hp
    exact ⟨rfl, q', h1, h2.putR hp ho⟩
  · rintro e w' ⟨A, rfl, ⟨rfl, q', h1, h2⟩, hc⟩
    exact ⟨rfl, q', h1, h2, hch.trans hc (fun _ _ e => e) (fun j hj e => by have := hb c hqc j e; omega), hc.mono fun _ _ e => ⟨c, hqc, e⟩⟩

theorem k_read {w0 w : World} {q : PC} (h : IsPl w q K2) (hch : Chg w0 w No) (hu : UB w0) (hm : ML w0) :
    Calls Tryd.prog 8 #[.pointer (some ⟨q.p, 0, none⟩), .agg (opA 9 pA sZ 128 99 none 0 0 0 0)] w fun e w' => ∃ g, e = .returned (.agg (ansD 0 (some ⟨g, 0, none⟩) 5 5)) ∧ w'.heap[g]? = some (.cells (SA [0, 0, 120, 121, 122]) 5 (0, 0)) ∧ Chg w w' No := by
  obtain ⟨c, x, hqc, hsx, hN, _, _⟩ := h.at_ (i := 2) (by rw [K2_2]; intro e; cases e)
  rw [K2_2] at hsx
  cases hsx
  refine (do_read (q := q) pA sZ 128 99 none 0 0 0 0 2 w (fun A w' => ∃ g, A = ansD 0 (some ⟨g, 0, none⟩) 5 5 ∧ w'.heap[g]? = some (.cells (SA [0, 0, 120, 121, 122]) 5 (0, 0))) No (fun _ e => e.elim) (hu.keep hch (fun e => e)) (hm.keep hch (fun _ e => e.elim)) (by kernel_rfl) (by decide) (by decide) (by rw [split_A]) ?_ ?_ ?_).mono ?_
  · intro W a ls hc hd hl
    obtain rfl := ls_A hd
    have hg := walk_any [nA] a ([nA] : List ByteArray).length W (h.call hc) okK2 hl (by decide) (fun _ => names_le)
    rw [walk_K2] at hg
    exact hg
  · intro W hc
    have hW := h.call hc
    refine (doAt_read (c := c) (x := fileK) 2 pA sZ 128 99 none 0 0 0 0 W 5 (SA [0, 0, 120, 121, 122]) hW hqc K2_2 (by decide) ?_).mono ?_
    · intro W2 hc2
      have hN2 := (hN.call hc).call hc2
      have hr := read_one (c := c) (x := fileK) 1 0 5 99 (laidL Zs 2 dX) W2 hN2 (by decide) (by decide) (by decide) (by kernel_rfl) rfl (by decide) (by decide) (by decide) (by decide)
      rw [read_K2] at hr
      exact hr
    · rintro e w' ⟨g, rfl, h1, h2, _⟩
      exact ⟨_, rfl, (ansD_ok _ _ _ _).1, (ansD_ok _ _ _ _).2, ⟨g, rfl, h1⟩, h2⟩
  · rintro A w1 w2 r o ⟨g, rfl, h1⟩ ho hp
    refine ⟨g, rfl, putR_keep hp h1 fun e => ?_⟩
    rw [e, ho] at h1
    cases h1
  · rintro e w' ⟨A, rfl, ⟨g, rfl, h1⟩, hc⟩
    exact ⟨g, rfl, h1, hc⟩

theorem k_mkdir {w0 w : World} {q : PC} (h : IsPl w q K2) (hch : Chg w0 w No) (hu : UB w0) (hm : ML w0) :
    Calls Tryd.prog 8 #[.pointer (some ⟨q.p, 0, none⟩), .agg (opA 2 pAB sZ 0 0 none 0 0 0 0)] w fun e w' => e = .returned (.agg (ansE 113)) ∧ Chg w w' No := by
  refine (do_mkdir (q := q) pAB sZ 0 0 none 0 0 0 0 w (fun A _ => A = ansE 113) No (fun _ e => e.elim) (hu.keep hch (fun e => e)) (hm.keep hch (fun _ e => e.elim)) (by kernel_rfl) (by decide) (by decide) (by rw [split_AB]) ?_ ?_).mono ?_
  · intro W a ls hc hd hl
    obtain rfl := ls_AB hd
    have hg := makeOne_bad [nA, nB] a 2 0 W (h.call hc) okK2 hl (by decide) (fun _ => names_le2) (by rw [lastE_K2]; decide)
    rw [lastE_K2] at hg
    refine hg.mono ?_
    rintro e w' ⟨rfl, hc'⟩
    exact ⟨_, rfl, (ansE_ok 113).1, (ansE_ok 113).2, rfl, hc'⟩
  · rintro A w1 w2 r o rfl ho hp
    rfl
  · rintro e w' ⟨A, rfl, rfl, hc⟩
    exact ⟨rfl, hc⟩

theorem k_room {w : World} {q : PC} (h : IsPl w q K2) :
    Calls Tryd.prog 9 #[.pointer (some ⟨q.p, 0, none⟩)] w fun e w' => e = .returned (.agg #[.int .i64 29, .int .i64 0, .int .i64 6]) ∧ Chg w w' No := by
  have hr := room_any w h num_K2
  rw [taken_K2, nodes_K2] at hr
  exact hr
end Go.Proofs.YtbkddnibcpjkgaaDoor
