/-
  The document's graph: a list of its edges; what a sector reaches, and what reaches it.
-/
import Derived.Test.YtfkommjpofpmbaaLawW
namespace Go.Proofs.Ytfkommjpofpmbaa
open Go.RowKit

/-- The document's graph lies at r, in blocks of its own. -/
structure IsR0 (w : World) (r : Nat) (a : Option Addr) (c : Nat) (own : Nat → Prop) (l : List (Int × Int)) (E : Int → Int → Prop) : Prop where
  me : w.heap[r]? = some (.cells #[.slice a l.length c] 53 (0, 0))
  at_ : EAt w a l
  list : EList E l
  sec : InSec E
  ring : NoRing E
  o1 : own r
  o2 : ∀ g, a = some ⟨g, 0, none⟩ → own g
def IsR (w : World) (r : Nat) (own : Nat → Prop) (E : Int → Int → Prop) : Prop := ∃ a c l, IsR0 w r a c own l E
theorem IsR0.keep {w w' : World} {r : Nat} {a : Option Addr} {c : Nat} {own ks : Nat → Prop} {l : List (Int × Int)} {E : Int → Int → Prop} (h : IsR0 w r a c own l E) (hc : Chg w w' ks) (hn : ∀ k, own k → ¬ ks k) : IsR0 w' r a c own l E :=
  ⟨hc.keep h.me (hn r h.o1), h.at_.keep hc (fun g e => hn g (h.o2 g e)), h.list, h.sec, h.ring, h.o1, h.o2⟩
theorem IsR.keep {w w' : World} {r : Nat} {own ks : Nat → Prop} {E : Int → Int → Prop} (h : IsR w r own E) (hc : Chg w w' ks) (hn : ∀ k, own k → ¬ ks k) : IsR w' r own E := let ⟨a, c, l, h⟩ := h; ⟨a, c, l, h.keep hc hn⟩
theorem IsR.call {w w' : World} {r : Nat} {own : Nat → Prop} {E : Int → Int → Prop} (h : IsR w r own E) (hc : Chg w w' No) : IsR w' r own E := h.keep hc fun _ _ e => e
theorem IsR0.c0 {w : World} {r : Nat} {a : Option Addr} {c : Nat} {own : Nat → Prop} {l : List (Int × Int)} {E : Int → Int → Prop} (h : IsR0 w r a c own l E) : w.cell? ⟨r, 0, none⟩ = some (.slice a l.length c) := cell0 h.me
theorem dir_sec {E : Int → Int → Prop} {l : List (Int × Int)} (h : EList E l) (hs : InSec E) (back : Bool) : InSec (dirF l back) := fun x y hxy => by
  unfold dirF at hxy
  cases back
  · exact hs x y ((h.2 (x, y)).1 (by simpa using hxy))
  · exact (hs y x ((h.2 (y, x)).1 (by simpa using hxy))).symm

/-- A list of what is reached, under way: the first i were looked at. -/
structure Rch (F : Int → Int → Prop) (n : Int) (o : List Int) (i : Nat) : Prop where
  first : ∃ t, o = n :: t
  once : o.Pairwise (· ≠ ·)
  new : ∀ x, x ∈ o → Reach F n x
  shut : ∀ j, j < i → ∀ y, F (o.getD j 0) y → y ∈ o
theorem Rch.start (F : Int → Int → Prop) (n : Int) : Rch F n [n] 0 := ⟨⟨[], rfl⟩, by simp, fun x hx => .inl (by simp at hx; exact hx.symm), fun j hj => by omega⟩
theorem Rch.end_ {F : Int → Int → Prop} {n : Int} {o : List Int} (h : Rch F n o o.length) (x : Int) : x ∈ o ↔ Reach F n x := by
  refine ⟨h.new x, fun k => k.closed (S := fun z => z ∈ o) (by obtain ⟨t, rfl⟩ := h.first; simp) fun a b ha hab => ?_⟩
  obtain ⟨j, hj, e⟩ := List.mem_iff_getElem.1 ha
  exact h.shut j hj b (by rw [show o.getD j 0 = a by simp [hj, e]]; exact hab)
theorem Rch.push {F : Int → Int → Prop} {n y : Int} {o : List Int} {i : Nat} (h : Rch F n o i) (hi : i < o.length) (hy : F (o.getD i 0) y) (hn : y ∉ o) : Rch F n (o ++ [y]) i := by
  have hg : ∀ j, j < o.length → (o ++ [y]).getD j 0 = o.getD j 0 := fun j hj => by
    rw [List.getD_eq_getElem?_getD, List.getElem?_append_left hj, ← List.getD_eq_getElem?_getD]
  refine ⟨?_, ?_, fun x hx => ?_, fun j hj z hz => ?_⟩
  · obtain ⟨t, rfl⟩ := h.first
    exact ⟨t ++ [y], rfl⟩
  · rw [List.pairwise_append]
    refine ⟨h.once, by simp, fun a ha b hb => ?_⟩
    simp at hb
    subst hb
    exact fun e => hn (e ▸ ha)
  · rw [List.mem_append, List.mem_singleton] at hx
    rcases hx with k | rfl
    · exact h.new x k
    · have hm : o.getD i 0 ∈ o := by rw [show o.getD i 0 = o[i] by simp [hi]]; exact List.getElem_mem _
      exact (h.new _ hm).trans (.inr (.one hy))
  · rw [hg j (by omega)] at hz
    exact List.mem_append_left _ (h.shut j hj z hz)
theorem Rch.next {F : Int → Int → Prop} {n : Int} {o : List Int} {i : Nat} (h : Rch F n o i) (hd : ∀ y, F (o.getD i 0) y → y ∈ o) : Rch F n o (i + 1) :=
  ⟨h.first, h.once, h.new, fun j hj y hy => by
    rcases Nat.lt_or_ge j i with c | c
    · exact h.shut j c y hy
    · obtain rfl : j = i := by omega
      exact hd y hy⟩
theorem Rch.len {F : Int → Int → Prop} {n : Int} {o : List Int} {i : Nat} (h : Rch F n o i) (hs : InSec F) : o.length ≤ 4097 := by
  obtain ⟨L, hL, hm⟩ := few_sec.one n
  refine Nat.le_trans (nodup_len o L h.once fun x hx => hm x ?_) hL
  rcases h.new x hx with e | e
  · exact .inl e.symm
  · exact .inr (e.sec hs).2
theorem getI {l : List Int} {j : Nat} (h : j < l.length) : l.getD j 0 = l[j] := by simp [h]
theorem ints_cell {w : World} {g : Nat} {l : List Int} (h : ∀ j u, (l.map (Value.int .i64))[j]? = some u → w.cell? ⟨g, j, none⟩ = some u) {k : Nat} (hk : k < l.length) : w.cell? ⟨g, k, none⟩ = some (.int .i64 (l.getD k 0)) :=
  h k _ (by rw [List.getElem?_map, List.getElem?_eq_getElem hk, getI hk]; rfl)

/-- What reached tells. -/
def RchPost (l : List (Int × Int)) (n : Int) (back : Bool) (w : World) (e : Ending) (w' : World) : Prop :=
  ∃ v o, e = .returned v ∧ Ints w' w.heap.size v o ∧ (∃ t, o = n :: t) ∧ o.Pairwise (· ≠ ·) ∧ (∀ x, x ∈ o ↔ Reach (dirF l back) n x) ∧ o.length ≤ 4097 ∧ Chg w w' No

set_option maxRecDepth 100000 in
set_option maxHeartbeats 4000000 in
theorem reached_forth {w : World} {r : Nat} {a : Option Addr} {c : Nat} {own : Nat → Prop} {l : List (Int × Int)} {E : Int → Int → Prop} (n : Int) (h : IsR0 w r a c own l E) :
    Calls Try.prog 30 #[.pointer (some ⟨r, 0, none⟩), .int .i64 n, .bool false] w (RchPost l n false w) := by
  have hmk := make_FA
  have hlen := edges_len l (h.list.1.imp fun {u v} k e => by subst e; unfold ltE at k; omega) (fun x hx => h.sec _ _ ((h.list.2 x).1 hx))
  have hFs := dir_sec h.list h.sec false
  have hs : ∀ x, x ∈ l → Sec x.1 ∧ Sec x.2 := fun x hx => h.sec _ _ ((h.list.2 x).1 hx)
  have HH := hid h
  generalize hN : l.length = N at *
  have hc0 : w.cell? ⟨r, 0, none⟩ = some (.slice a N c) := by rw [← hN]; exact h.c0
  have hrl := slt h.me
  clear h
  unfold RchPost
  go_enter Try.func30, Try.ntmps30
  go_wp2_with fail
  have b0 : BoolsAt ((w.alloc (.cells FA 4)).alloc (.cells #[.int .i64 n] 3)) w.heap.size Fs := ⟨by rw [heap_alloc_if, if_neg (by simp), heap_alloc_if, if_pos rfl]; rfl, Fs_len⟩
  have q0 : Ints ((w.alloc (.cells FA 4)).alloc (.cells #[.int .i64 n] 3)) w.heap.size (.slice (some ⟨w.heap.size + 1, 0, none⟩) 1 1) [n] :=
    ⟨rfl, .inr ⟨w.heap.size + 1, 1, #[.int .i64 n], rfl, by omega, by rw [heap_alloc_if, if_pos (by simp)], Nat.le_refl _, by unfold maxLen; omega, rfl, rfl⟩⟩
  have c1 : Chg w ((w.alloc (.cells FA 4)).alloc (.cells #[.int .i64 n] 3)) No := (Chg.alloc w _ No).trans (Chg.alloc _ _ No) (fun _ _ e => e) (fun _ _ e => e)
  generalize (w.alloc (.cells FA 4)).alloc (.cells #[.int .i64 n] 3) = w0 at *
  generalize hg : w.heap.size = g at *
  clear hc0
  go_loopw [8, 9] (fun v i wr => ∃ (o : List Int) (k : Nat) (s : List Bool) (wq : World), wq = wr ∧ i = .int .i64 k ∧ k ≤ o.length ∧ Ints wq g v o ∧ BoolsAt wq g s ∧ (∀ x, Tof s x ↔ x ∈ o ∧ x ≠ n) ∧ Rch (dirF l false) n o k ∧ Chg w wq No) (fun _ i _ => 4098 - (intOf i).toNat)
  case atStart => exact ⟨[n], 0, Fs, _, rfl, rfl, by simp, q0, b0, fun x => ⟨fun k => absurd k (Tof_start x), fun k => absurd (by simpa using k.1) k.2⟩, Rch.start _ _, c1⟩
  case round =>
    obtain ⟨o, k, s, wA, rfl, rfl, hko, hrow, hb, hT, hR, hc⟩ := hrel
    have hol := hR.len hFs
    obtain ⟨go, co, rfl, hgo, hgo2, hcells⟩ := row_cells hrow (by obtain ⟨t, e⟩ := hR.first; rw [e]; simp)
    generalize hO : o.length = O at *
    by_cases hko2 : k < O
    · have hk0 : (0 : Int) ≤ (k : Int) := by omega
      have hk1 : (k : Int) < (O : Int) := by omega
      have HX := hid (And.intro hrow (And.intro hb (And.intro hT (And.intro hR hc))))
      clear hrow hb hT hR hc hcells
      go_wp2_with fail
      obtain ⟨x, hx⟩ : ∃ x, o.getD k 0 = x := ⟨_, rfl⟩
      have HX2 := HX.out
      obtain ⟨hrow, hb, hT, hR, hc⟩ := HX2
      go_loopw [8, 10] (fun v i wr => ∃ (j : Nat) (o2 : List Int) (s2 : List Bool) (wq : World), wq = wr ∧ j ≤ N ∧ i = .int .i64 j ∧ Ints wq g v o2 ∧ BoolsAt wq g s2 ∧ (∀ z, Tof s2 z ↔ z ∈ o2 ∧ z ≠ n) ∧ Rch (dirF l false) n o2 k ∧ (k < o2.length ∧ o2.getD k 0 = x) ∧ (∀ z, Dk l false x j z → z ∈ o2) ∧ Chg w wq No) (fun _ i _ => N - (intOf i).toNat)
      case atStart => exact ⟨0, o, s, _, rfl, by omega, rfl, hrow, hb, hT, hR, ⟨by omega, hx⟩, fun z hz => by simp [Dk] at hz, hc⟩
      case round =>
        obtain ⟨j, o2, s2, wB, rfl, hj, rfl, hrow2, hb2, hT2, hR2, ⟨hk2, hx2⟩, hD2, hc2⟩ := hrel
        have hol2 := hR2.len hFs
        obtain ⟨g2, c2, rfl, hg2, hg22, hcells2⟩ := row_cells hrow2 (by omega)
        have hH2 := HH.out.keep hc2 (fun _ _ e => e)
        have hcr : wB.cell? ⟨r, 0, none⟩ = some (.slice a N c) := by rw [← hN]; exact hH2.c0
        generalize hO2 : o2.length = O2 at *
        by_cases hlt : j < N
        · rcases hH2.at_ with h0 | ⟨g1, rfl, hg1, h1⟩
          · rw [h0] at hN; simp at hN; omega
          obtain ⟨p1, p2⟩ := EAt.cells h1 (k := j) (by omega)
          have hDk := Dk_succ (l := l) (k := j) (by omega) false x
          have hyl : edK l j ∈ l := by
            have e : edK l j = l[j]'(by omega) := by simp [edK, show j < l.length by omega]
            rw [e]; exact List.getElem_mem _
          obtain ⟨hs1, hs2⟩ := hs _ hyl
          generalize edK l j = y at *
          have ht0 : 0 ≤ y.2 := hs2.1
          have ht1 : y.2 < 4096 := hs2.2
          have hi0 : (0 : Int) ≤ (j : Int) := by omega
          have hi1 : (j : Int) < (N : Int) := by omega
          have hk0 : (0 : Int) ≤ (k : Int) := by omega
          have hk1 : (k : Int) < (O2 : Int) := by omega
          have hxc : wB.cell? ⟨g2, k, none⟩ = some (.int .i64 x) := by rw [← hx2]; exact ints_cell hcells2 (by omega)
          have hsc := hb2.cell (j := (y.2).toNat) (by omega)
          have hsf := hb2.free (y.2).toNat
          have HY := hid (And.intro hrow2 (And.intro hb2 (And.intro hT2 (And.intro hR2 (And.intro hc2 (And.intro hD2 hx2))))))
          clear h1 hcells2 hrow2 hb2 hT2 hR2 hc2 hD2 hH2 hx2
          by_cases hfr : y.1 = x
          · have hFy : dirF l false x y.2 := by
              unfold dirF
              rw [← hfr]
              simpa using hyl
            have hbe : (y.1 == x) = true := by simp [hfr]
            have HFR := hid hfr
            clear hfr
            cases hsv : s2.getD (y.2).toNat false with
            | true =>
              rw [hsv] at hsc
              have hmem : y.2 ∈ o2 := ((HY.out.2.2.1 _).1 ⟨hs2, hsv⟩).1
              clear hsv
              go_wp2_with fail
              obtain ⟨hrow2, hb2, hT2, hR2, hc2, hD2, hx2⟩ := HY.out
              go_roundw
              case rel => exact ⟨j + 1, o2, s2, _, rfl, by omega, by go_num, hrow2, hb2, hT2, hR2, ⟨by omega, hx2⟩, fun z hz => ((hDk z).1 hz).elim (hD2 z) (fun e => by cases e; exact hmem), hc2⟩
              case measure => simp [intOf]; omega
            | false =>
              rw [hsv] at hsc
              have HSV := hid hsv
              clear hsv
              by_cases htn : y.2 = n
              · have hbn : (y.2 == n) = true := by simp [htn]
                have HTN := hid htn
                clear htn
                go_wp2_with fail
                obtain ⟨hrow2, hb2, hT2, hR2, hc2, hD2, hx2⟩ := HY.out
                have hmem : y.2 ∈ o2 := by obtain ⟨t, e⟩ := hR2.first; rw [HTN.out, e]; simp
                go_roundw
                case rel => exact ⟨j + 1, o2, s2, _, rfl, by omega, by go_num, hrow2, hb2, hT2, hR2, ⟨by omega, hx2⟩, fun z hz => ((hDk z).1 hz).elim (hD2 z) (fun e => by cases e; exact hmem), hc2⟩
                case measure => simp [intOf]; omega
              · have hbn : (y.2 == n) = false := by simp [htn]
                have hcs : Chg wB (wB.setCell ⟨g, (y.2).toNat, none⟩ (.bool true)) (· = g) := Chg.setCell
                have hgg2 : g2 ≠ g := fun e => by
                  obtain ⟨cur, hcur⟩ := row_kind HY.out.1 (j := g2) rfl
                  rw [e, HY.out.2.1.1] at hcur
                  cases hcur
                have hQ0 : Ints wB g (.slice (some ⟨g2, 0, none⟩) O2 c2) o2 := HY.out.1
                have hQs : Ints ((wB.setCell ⟨g, (y.2).toNat, none⟩ (.bool true)).alloc (.cells #[.int .i64 y.2] 3)) g (.slice (some ⟨g2, 0, none⟩) O2 c2) o2 := row_keep (row_keep hQ0 hcs (fun j hj e => by have : g2 = j := (by simpa [Value.ownBlock] using hj); omega)) (Chg.alloc _ (.cells #[.int .i64 y.2] 3) No) (fun _ _ e => e)
                have hcell := cell0 (heap_alloc_new (wB.setCell ⟨g, (y.2).toNat, none⟩ (.bool true)) (.cells #[.int .i64 y.2] 3))
                have hszs : (wB.setCell ⟨g, (y.2).toNat, none⟩ (.bool true)).heap.size = wB.heap.size := by simp [World.setCell]
                rw [hszs] at hcell
                have hszB := HY.out.2.2.2.2.1.size
                go_wp2_with (first
                  | (at_builtin; go_must (refine wp_appI rfl _ _ rfl g wB.heap.size 1 (.slice (some ⟨g2, 0, none⟩) O2 c2) o2 y.2 rfl rfl hQs hcell (by omega) (by simp [hszs]; omega) ?_; intro v6 w6 h61 h62 h63))
                  | fail)
                obtain ⟨hrow2, hb2, hT2, hR2, hc2, hD2, hx2⟩ := HY.out
                have hbs := (hb2.set (y.2).toNat true).keep (Chg.alloc _ (.cells #[.int .i64 y.2] 3) No) (fun e => e)
                have hb6 := hbs.keep h62 (fun e => by have : g2 = g := (by simpa [Value.ownBlock] using e); omega)
                have hc6 : Chg w w6 No := hc2.trans (hcs.trans ((Chg.alloc _ (.cells #[.int .i64 y.2] 3) No).trans h62 (c := fun k => g ≤ k) (fun _ _ e => e.elim) (fun j _ e => (row_ge hQs e).1)) (c := fun k => g ≤ k) (fun j _ e => by omega) (fun _ _ e => e)) (fun _ _ e => e) (fun j hj e => by omega)
                have hnm : y.2 ∉ o2 := fun e => by
                  have := ((hT2 _).2 ⟨e, htn⟩).2
                  rw [HSV.out] at this
                  cases this
                have hgk : (o2 ++ [y.2]).getD k 0 = o2.getD k 0 := by rw [List.getD_eq_getElem?_getD, List.getElem?_append_left (by omega), ← List.getD_eq_getElem?_getD]
                go_roundw
                case rel =>
                  refine ⟨j + 1, o2 ++ [y.2], s2.set (y.2).toNat true, _, rfl, by omega, by go_num, h61, hb6, fun z => ?_, hR2.push (by omega) (by rw [hx2]; exact hFy) hnm, ⟨by simp; omega, by rw [hgk]; exact hx2⟩, fun z hz => ((hDk z).1 hz).elim (fun e => List.mem_append_left _ (hD2 z e)) (fun e => by cases e; simp), hc6⟩
                  rw [Tof_set hb2.2 hs2, hT2, List.mem_append, List.mem_singleton]
                  constructor
                  · rintro (e | ⟨e1, e2⟩)
                    · exact ⟨.inr e, by rw [e]; exact htn⟩
                    · exact ⟨.inl e1, e2⟩
                  · rintro ⟨e1 | e1, e2⟩
                    · exact .inr ⟨e1, e2⟩
                    · exact .inl e1
                case measure => simp [intOf]; omega
          · have hbe : (y.1 == x) = false := by simp [hfr]
            go_wp2_with fail
            obtain ⟨hrow2, hb2, hT2, hR2, hc2, hD2, hx2⟩ := HY.out
            go_roundw
            case rel => exact ⟨j + 1, o2, s2, _, rfl, by omega, by go_num, hrow2, hb2, hT2, hR2, ⟨by omega, hx2⟩, fun z hz => ((hDk z).1 hz).elim (hD2 z) (fun e => by cases e; exact absurd rfl hfr), hc2⟩
            case measure => simp [intOf]; omega
        · obtain rfl : j = N := by omega
          have HY := hid (And.intro hrow2 (And.intro hb2 (And.intro hT2 (And.intro hR2 (And.intro hc2 (And.intro hD2 hx2))))))
          clear hcells2 hrow2 hb2 hT2 hR2 hc2 hD2 hH2 hx2
          go_wp2_with fail
          obtain ⟨hrow2, hb2, hT2, hR2, hc2, hD2, hx2⟩ := HY.out
          go_roundw
          case rel => exact ⟨o2, k + 1, s2, _, rfl, by go_num, by omega, hrow2, hb2, hT2, hR2.next (fun z hz => hD2 z (by rw [hx2] at hz; unfold Dk; rw [← hN, List.take_length]; exact hz)), hc2⟩
          case measure => simp [intOf]; omega
    · obtain rfl : k = O := by omega
      have HX := hid (And.intro hrow (And.intro hR hc))
      clear hrow hb hT hR hc hcells
      go_wp2_with fail
      go_ret
      obtain ⟨hrow, hR, hc⟩ := HX.out
      rw [← hO] at hR
      exact ⟨_, o, rfl, by first | exact hrow | (rw [hg]; exact hrow), hR.first, hR.once, hR.end_, by omega, hc⟩

set_option maxRecDepth 100000 in
set_option maxHeartbeats 4000000 in
theorem reached_back {w : World} {r : Nat} {a : Option Addr} {c : Nat} {own : Nat → Prop} {l : List (Int × Int)} {E : Int → Int → Prop} (n : Int) (h : IsR0 w r a c own l E) :
    Calls Try.prog 30 #[.pointer (some ⟨r, 0, none⟩), .int .i64 n, .bool true] w (RchPost l n true w) := by
  have hmk := make_FA
  have hlen := edges_len l (h.list.1.imp fun {u v} k e => by subst e; unfold ltE at k; omega) (fun x hx => h.sec _ _ ((h.list.2 x).1 hx))
  have hFs := dir_sec h.list h.sec true
  have hs : ∀ x, x ∈ l → Sec x.1 ∧ Sec x.2 := fun x hx => h.sec _ _ ((h.list.2 x).1 hx)
  have HH := hid h
  generalize hN : l.length = N at *
  have hc0 : w.cell? ⟨r, 0, none⟩ = some (.slice a N c) := by rw [← hN]; exact h.c0
  have hrl := slt h.me
  clear h
  unfold RchPost
  go_enter Try.func30, Try.ntmps30
  go_wp2_with fail
  have b0 : BoolsAt ((w.alloc (.cells FA 4)).alloc (.cells #[.int .i64 n] 3)) w.heap.size Fs := ⟨by rw [heap_alloc_if, if_neg (by simp), heap_alloc_if, if_pos rfl]; rfl, Fs_len⟩
  have q0 : Ints ((w.alloc (.cells FA 4)).alloc (.cells #[.int .i64 n] 3)) w.heap.size (.slice (some ⟨w.heap.size + 1, 0, none⟩) 1 1) [n] :=
    ⟨rfl, .inr ⟨w.heap.size + 1, 1, #[.int .i64 n], rfl, by omega, by rw [heap_alloc_if, if_pos (by simp)], Nat.le_refl _, by unfold maxLen; omega, rfl, rfl⟩⟩
  have c1 : Chg w ((w.alloc (.cells FA 4)).alloc (.cells #[.int .i64 n] 3)) No := (Chg.alloc w _ No).trans (Chg.alloc _ _ No) (fun _ _ e => e) (fun _ _ e => e)
  generalize (w.alloc (.cells FA 4)).alloc (.cells #[.int .i64 n] 3) = w0 at *
  generalize hg : w.heap.size = g at *
  clear hc0
  go_loopw [8, 9] (fun v i wr => ∃ (o : List Int) (k : Nat) (s : List Bool) (wq : World), wq = wr ∧ i = .int .i64 k ∧ k ≤ o.length ∧ Ints wq g v o ∧ BoolsAt wq g s ∧ (∀ x, Tof s x ↔ x ∈ o ∧ x ≠ n) ∧ Rch (dirF l true) n o k ∧ Chg w wq No) (fun _ i _ => 4098 - (intOf i).toNat)
  case atStart => exact ⟨[n], 0, Fs, _, rfl, rfl, by simp, q0, b0, fun x => ⟨fun k => absurd k (Tof_start x), fun k => absurd (by simpa using k.1) k.2⟩, Rch.start _ _, c1⟩
  case round =>
    obtain ⟨o, k, s, wA, rfl, rfl, hko, hrow, hb, hT, hR, hc⟩ := hrel
    have hol := hR.len hFs
    obtain ⟨go, co, rfl, hgo, hgo2, hcells⟩ := row_cells hrow (by obtain ⟨t, e⟩ := hR.first; rw [e]; simp)
    generalize hO : o.length = O at *
    by_cases hko2 : k < O
    · have hk0 : (0 : Int) ≤ (k : Int) := by omega
      have hk1 : (k : Int) < (O : Int) := by omega
      have HX := hid (And.intro hrow (And.intro hb (And.intro hT (And.intro hR hc))))
      clear hrow hb hT hR hc hcells
      go_wp2_with fail
      obtain ⟨x, hx⟩ : ∃ x, o.getD k 0 = x := ⟨_, rfl⟩
      have HX2 := HX.out
      obtain ⟨hrow, hb, hT, hR, hc⟩ := HX2
      go_loopw [8, 10] (fun v i wr => ∃ (j : Nat) (o2 : List Int) (s2 : List Bool) (wq : World), wq = wr ∧ j ≤ N ∧ i = .int .i64 j ∧ Ints wq g v o2 ∧ BoolsAt wq g s2 ∧ (∀ z, Tof s2 z ↔ z ∈ o2 ∧ z ≠ n) ∧ Rch (dirF l true) n o2 k ∧ (k < o2.length ∧ o2.getD k 0 = x) ∧ (∀ z, Dk l true x j z → z ∈ o2) ∧ Chg w wq No) (fun _ i _ => N - (intOf i).toNat)
      case atStart => exact ⟨0, o, s, _, rfl, by omega, rfl, hrow, hb, hT, hR, ⟨by omega, hx⟩, fun z hz => by simp [Dk] at hz, hc⟩
      case round =>
        obtain ⟨j, o2, s2, wB, rfl, hj, rfl, hrow2, hb2, hT2, hR2, ⟨hk2, hx2⟩, hD2, hc2⟩ := hrel
        have hol2 := hR2.len hFs
        obtain ⟨g2, c2, rfl, hg2, hg22, hcells2⟩ := row_cells hrow2 (by omega)
        have hH2 := HH.out.keep hc2 (fun _ _ e => e)
        have hcr : wB.cell? ⟨r, 0, none⟩ = some (.slice a N c) := by rw [← hN]; exact hH2.c0
        generalize hO2 : o2.length = O2 at *
        by_cases hlt : j < N
        · rcases hH2.at_ with h0 | ⟨g1, rfl, hg1, h1⟩
          · rw [h0] at hN; simp at hN; omega
          obtain ⟨p1, p2⟩ := EAt.cells h1 (k := j) (by omega)
          have hDk := Dk_succ (l := l) (k := j) (by omega) true x
          have hyl : edK l j ∈ l := by
            have e : edK l j = l[j]'(by omega) := by simp [edK, show j < l.length by omega]
            rw [e]; exact List.getElem_mem _
          obtain ⟨hs1, hs2⟩ := hs _ hyl
          generalize edK l j = y at *
          have ht0 : 0 ≤ y.1 := hs1.1
          have ht1 : y.1 < 4096 := hs1.2
          have hi0 : (0 : Int) ≤ (j : Int) := by omega
          have hi1 : (j : Int) < (N : Int) := by omega
          have hk0 : (0 : Int) ≤ (k : Int) := by omega
          have hk1 : (k : Int) < (O2 : Int) := by omega
          have hxc : wB.cell? ⟨g2, k, none⟩ = some (.int .i64 x) := by rw [← hx2]; exact ints_cell hcells2 (by omega)
          have hsc := hb2.cell (j := (y.1).toNat) (by omega)
          have hsf := hb2.free (y.1).toNat
          have HY := hid (And.intro hrow2 (And.intro hb2 (And.intro hT2 (And.intro hR2 (And.intro hc2 (And.intro hD2 hx2))))))
          clear h1 hcells2 hrow2 hb2 hT2 hR2 hc2 hD2 hH2 hx2
          by_cases hfr : y.2 = x
          · have hFy : dirF l true x y.1 := by
              unfold dirF
              rw [← hfr]
              simpa using hyl
            have hbe : (y.2 == x) = true := by simp [hfr]
            have HFR := hid hfr
            clear hfr
            cases hsv : s2.getD (y.1).toNat false with
            | true =>
              rw [hsv] at hsc
              have hmem : y.1 ∈ o2 := ((HY.out.2.2.1 _).1 ⟨hs1, hsv⟩).1
              clear hsv
              go_wp2_with fail
              obtain ⟨hrow2, hb2, hT2, hR2, hc2, hD2, hx2⟩ := HY.out
              go_roundw
              case rel => exact ⟨j + 1, o2, s2, _, rfl, by omega, by go_num, hrow2, hb2, hT2, hR2, ⟨by omega, hx2⟩, fun z hz => ((hDk z).1 hz).elim (hD2 z) (fun e => by cases e; exact hmem), hc2⟩
              case measure => simp [intOf]; omega
            | false =>
              rw [hsv] at hsc
              have HSV := hid hsv
              clear hsv
              by_cases htn : y.1 = n
              · have hbn : (y.1 == n) = true := by simp [htn]
                have HTN := hid htn
                clear htn
                go_wp2_with fail
                obtain ⟨hrow2, hb2, hT2, hR2, hc2, hD2, hx2⟩ := HY.out
                have hmem : y.1 ∈ o2 := by obtain ⟨t, e⟩ := hR2.first; rw [HTN.out, e]; simp
                go_roundw
                case rel => exact ⟨j + 1, o2, s2, _, rfl, by omega, by go_num, hrow2, hb2, hT2, hR2, ⟨by omega, hx2⟩, fun z hz => ((hDk z).1 hz).elim (hD2 z) (fun e => by cases e; exact hmem), hc2⟩
                case measure => simp [intOf]; omega
              · have hbn : (y.1 == n) = false := by simp [htn]
                have hcs : Chg wB (wB.setCell ⟨g, (y.1).toNat, none⟩ (.bool true)) (· = g) := Chg.setCell
                have hgg2 : g2 ≠ g := fun e => by
                  obtain ⟨cur, hcur⟩ := row_kind HY.out.1 (j := g2) rfl
                  rw [e, HY.out.2.1.1] at hcur
                  cases hcur
                have hQ0 : Ints wB g (.slice (some ⟨g2, 0, none⟩) O2 c2) o2 := HY.out.1
                have hQs : Ints ((wB.setCell ⟨g, (y.1).toNat, none⟩ (.bool true)).alloc (.cells #[.int .i64 y.1] 3)) g (.slice (some ⟨g2, 0, none⟩) O2 c2) o2 := row_keep (row_keep hQ0 hcs (fun j hj e => by have : g2 = j := (by simpa [Value.ownBlock] using hj); omega)) (Chg.alloc _ (.cells #[.int .i64 y.1] 3) No) (fun _ _ e => e)
                have hcell := cell0 (heap_alloc_new (wB.setCell ⟨g, (y.1).toNat, none⟩ (.bool true)) (.cells #[.int .i64 y.1] 3))
                have hszs : (wB.setCell ⟨g, (y.1).toNat, none⟩ (.bool true)).heap.size = wB.heap.size := by simp [World.setCell]
                rw [hszs] at hcell
                have hszB := HY.out.2.2.2.2.1.size
                go_wp2_with (first
                  | (at_builtin; go_must (refine wp_appI rfl _ _ rfl g wB.heap.size 1 (.slice (some ⟨g2, 0, none⟩) O2 c2) o2 y.1 rfl rfl hQs hcell (by omega) (by simp [hszs]; omega) ?_; intro v6 w6 h61 h62 h63))
                  | fail)
                obtain ⟨hrow2, hb2, hT2, hR2, hc2, hD2, hx2⟩ := HY.out
                have hbs := (hb2.set (y.1).toNat true).keep (Chg.alloc _ (.cells #[.int .i64 y.1] 3) No) (fun e => e)
                have hb6 := hbs.keep h62 (fun e => by have : g2 = g := (by simpa [Value.ownBlock] using e); omega)
                have hc6 : Chg w w6 No := hc2.trans (hcs.trans ((Chg.alloc _ (.cells #[.int .i64 y.1] 3) No).trans h62 (c := fun k => g ≤ k) (fun _ _ e => e.elim) (fun j _ e => (row_ge hQs e).1)) (c := fun k => g ≤ k) (fun j _ e => by omega) (fun _ _ e => e)) (fun _ _ e => e) (fun j hj e => by omega)
                have hnm : y.1 ∉ o2 := fun e => by
                  have := ((hT2 _).2 ⟨e, htn⟩).2
                  rw [HSV.out] at this
                  cases this
                have hgk : (o2 ++ [y.1]).getD k 0 = o2.getD k 0 := by rw [List.getD_eq_getElem?_getD, List.getElem?_append_left (by omega), ← List.getD_eq_getElem?_getD]
                go_roundw
                case rel =>
                  refine ⟨j + 1, o2 ++ [y.1], s2.set (y.1).toNat true, _, rfl, by omega, by go_num, h61, hb6, fun z => ?_, hR2.push (by omega) (by rw [hx2]; exact hFy) hnm, ⟨by simp; omega, by rw [hgk]; exact hx2⟩, fun z hz => ((hDk z).1 hz).elim (fun e => List.mem_append_left _ (hD2 z e)) (fun e => by cases e; simp), hc6⟩
                  rw [Tof_set hb2.2 hs1, hT2, List.mem_append, List.mem_singleton]
                  constructor
                  · rintro (e | ⟨e1, e2⟩)
                    · exact ⟨.inr e, by rw [e]; exact htn⟩
                    · exact ⟨.inl e1, e2⟩
                  · rintro ⟨e1 | e1, e2⟩
                    · exact .inr ⟨e1, e2⟩
                    · exact .inl e1
                case measure => simp [intOf]; omega
          · have hbe : (y.2 == x) = false := by simp [hfr]
            go_wp2_with fail
            obtain ⟨hrow2, hb2, hT2, hR2, hc2, hD2, hx2⟩ := HY.out
            go_roundw
            case rel => exact ⟨j + 1, o2, s2, _, rfl, by omega, by go_num, hrow2, hb2, hT2, hR2, ⟨by omega, hx2⟩, fun z hz => ((hDk z).1 hz).elim (hD2 z) (fun e => by cases e; exact absurd rfl hfr), hc2⟩
            case measure => simp [intOf]; omega
        · obtain rfl : j = N := by omega
          have HY := hid (And.intro hrow2 (And.intro hb2 (And.intro hT2 (And.intro hR2 (And.intro hc2 (And.intro hD2 hx2))))))
          clear hcells2 hrow2 hb2 hT2 hR2 hc2 hD2 hH2 hx2
          go_wp2_with fail
          obtain ⟨hrow2, hb2, hT2, hR2, hc2, hD2, hx2⟩ := HY.out
          go_roundw
          case rel => exact ⟨o2, k + 1, s2, _, rfl, by go_num, by omega, hrow2, hb2, hT2, hR2.next (fun z hz => hD2 z (by rw [hx2] at hz; unfold Dk; rw [← hN, List.take_length]; exact hz)), hc2⟩
          case measure => simp [intOf]; omega
    · obtain rfl : k = O := by omega
      have HX := hid (And.intro hrow (And.intro hR hc))
      clear hrow hb hT hR hc hcells
      go_wp2_with fail
      go_ret
      obtain ⟨hrow, hR, hc⟩ := HX.out
      rw [← hO] at hR
      exact ⟨_, o, rfl, by first | exact hrow | (rw [hg]; exact hrow), hR.first, hR.once, hR.end_, by omega, hc⟩

end Go.Proofs.Ytfkommjpofpmbaa
