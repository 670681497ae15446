/-
  ways, the statements' own helper: which sectors a sector leads to by edges, however far.
-/
import Derived.Test.YtjnafcogdakbbaaLawQ
namespace Go.Proofs.Ytjnafcogdakbbaa
open Go.RowKit

/-- The edges of a list, forth or back. -/
def dirF (l : List (Int × Int)) (back : Bool) (x y : Int) : Prop := if back then (y, x) ∈ l else (x, y) ∈ l

/-- A search under way. -/
structure Bfs (F : Int → Int → Prop) (n : Int) (T : Int → Prop) (q : List Int) : Prop where
  new : ∀ x, T x → Way F n x
  que : ∀ x, x ∈ q → x = n ∨ T x
  shut : ∀ x, (x = n ∨ T x) → x ∉ q → ∀ y, F x y → T y
/-- A search under way, at x: D was looked at. -/
structure BfsIn (F : Int → Int → Prop) (n x : Int) (T : Int → Prop) (q : List Int) (D : Int → Prop) : Prop where
  at_ : x = n ∨ T x
  new : ∀ x, T x → Way F n x
  que : ∀ x, x ∈ q → x = n ∨ T x
  shut : ∀ z, (z = n ∨ T z) → z ∉ q → z ≠ x → ∀ y, F z y → T y
  done : ∀ y, D y → F x y → T y
variable {F : Int → Int → Prop} {n x : Int} {T : Int → Prop} {q : List Int} {D : Int → Prop}
theorem Bfs.pop (h : Bfs F n T (x :: q)) : BfsIn F n x T q (fun _ => False) :=
  ⟨h.que x (by simp), h.new, fun y hy => h.que y (by simp [hy]), fun z hz hq hx y hy => h.shut z hz (by simp [hq, hx]) y hy, fun _ e => e.elim⟩
theorem BfsIn.end_ (h : BfsIn F n x T q D) (hD : ∀ y, F x y → D y) : Bfs F n T q :=
  ⟨h.new, h.que, fun z hz hq y hy => by
    by_cases e : z = x
    · subst e; exact h.done y (hD y hy) hy
    · exact h.shut z hz hq e y hy⟩
theorem BfsIn.skip {D' : Int → Prop} (h : BfsIn F n x T q D) (hD : ∀ y, D' y → F x y → D y ∨ T y) : BfsIn F n x T q D' :=
  ⟨h.at_, h.new, h.que, h.shut, fun y hy hf => (hD y hy hf).elim (fun k => h.done y k hf) (fun k => k)⟩
theorem BfsIn.push {y : Int} {T' D' : Int → Prop} (h : BfsIn F n x T q D) (hy : F x y) (hT : ∀ z, T' z ↔ z = y ∨ T z) (hD : ∀ z, D' z → F x z → D z ∨ z = y) : BfsIn F n x T' (q ++ [y]) D' := by
  refine ⟨h.at_.elim .inl (fun k => .inr ((hT x).2 (.inr k))), fun z hz => ?_, fun z hz => ?_, fun z hz hq hx u hu => ?_, fun z hz hf => ?_⟩
  · rcases (hT z).1 hz with rfl | k
    · rcases h.at_ with rfl | k
      · exact .one hy
      · exact (h.new x k).snoc hy
    · exact h.new z k
  · rw [List.mem_append, List.mem_singleton] at hz
    rcases hz with k | rfl
    · exact (h.que z k).elim .inl (fun k => .inr ((hT z).2 (.inr k)))
    · exact .inr ((hT z).2 (.inl rfl))
  · rw [List.mem_append, List.mem_singleton] at hq
    have hz' : z = n ∨ T z := hz.elim .inl (fun k => ((hT z).1 k).elim (fun e => absurd (.inr e) hq) .inr)
    exact (hT u).2 (.inr (h.shut z hz' (fun k => hq (.inl k)) hx u hu))
  · rcases hD z hz hf with k | k
    · exact (hT z).2 (.inr (h.done z k hf))
    · exact (hT z).2 (.inl k)
theorem Bfs.end_ (h : Bfs F n T []) (y : Int) : T y ↔ Way F n y := by
  refine ⟨h.new y, fun k => ?_⟩
  obtain ⟨c, h1, h2⟩ := k.split
  exact h2.closed (h.shut n (.inl rfl) (by simp) c h1) fun a b ha hab => h.shut a (.inr ha) (by simp) b hab
/-- Who was seen. -/
def Tof (s : List Bool) (x : Int) : Prop := Sec x ∧ s.getD x.toNat false = true
theorem Tof_start (x : Int) : ¬ Tof Fs x := fun h => by
  have := h.2
  rw [Fs_get] at this
  cases this
theorem Tof_set {s : List Bool} (hl : s.length = 4096) {y : Int} (hy : Sec y) (z : Int) : Tof (s.set y.toNat true) z ↔ z = y ∨ Tof s z := by
  unfold Tof
  obtain ⟨h0, h1⟩ := hy
  constructor
  · rintro ⟨hz, h⟩
    by_cases e : z = y
    · exact .inl e
    · refine .inr ⟨hz, ?_⟩
      have hne : y.toNat ≠ z.toNat := by have := hz.1; omega
      rwa [List.getD_eq_getElem?_getD, List.getElem?_set_ne hne, ← List.getD_eq_getElem?_getD] at h
  · rintro (rfl | ⟨hz, h⟩)
    · refine ⟨⟨h0, h1⟩, ?_⟩
      rw [List.getD_eq_getElem?_getD, List.getElem?_set_self (by omega)]
      rfl
    · refine ⟨hz, ?_⟩
      by_cases e : y.toNat = z.toNat
      · rw [List.getD_eq_getElem?_getD, ← e, List.getElem?_set_self (by omega)]
        rfl
      · rwa [List.getD_eq_getElem?_getD, List.getElem?_set_ne e, ← List.getD_eq_getElem?_getD]
def lenV : Value → Nat
  | .slice _ n _ => n
  | _ => 0
theorem Que.lenV {w : World} {base : Nat} {v : Value} {q : List Int} (h : Que w base v q) : lenV v = q.length := by
  obtain ⟨g, o, cap, cur, rfl, _⟩ := h
  rfl
/-- The cells that nobody was seen in. -/
def FA : Array Value := (Fs.map Value.bool).toArray
theorem make_FA (w : World) : (Instr.makeSlice 53 (.int .i64 4096) (.int .i64 4096)).run Try.prog w = .ok (.slice (some ⟨w.heap.size, 0, none⟩) 4096 4096) (w.alloc (.cells FA 4)) := make_bools w
theorem nF_Fs : nF Fs ≤ 4096 := by
  have := List.countP_le_length (p := fun b : Bool => !b) (l := Fs)
  rw [Fs_len] at this
  exact this
/-- Who was looked at. -/
def Dk (l : List (Int × Int)) (back : Bool) (x : Int) (k : Nat) (y : Int) : Prop := if back then (y, x) ∈ l.take k else (x, y) ∈ l.take k
theorem Dk_succ {l : List (Int × Int)} {k : Nat} (hk : k < l.length) (back : Bool) (x y : Int) : Dk l back x (k + 1) y ↔ Dk l back x k y ∨ edK l k = (if back then (y, x) else (x, y)) := by
  have e : edK l k = l[k] := by simp [edK, hk]
  unfold Dk
  rw [List.take_succ_eq_append_getElem hk, e]
  cases back
  · simp only [Bool.false_eq_true, if_false, List.mem_append, List.mem_singleton]
    exact ⟨fun h => h.elim .inl (fun k => .inr k.symm), fun h => h.elim .inl (fun k => .inr k.symm)⟩
  · simp only [if_true, List.mem_append, List.mem_singleton]
    exact ⟨fun h => h.elim .inl (fun k => .inr k.symm), fun h => h.elim .inl (fun k => .inr k.symm)⟩

/-- What ways tells. -/
def WaysPost (l : List (Int × Int)) (n : Int) (back : Bool) (w : World) (e : Ending) (w' : World) : Prop :=
  ∃ g s, e = .returned (.slice (some ⟨g, 0, none⟩) 4096 4096) ∧ w.heap.size ≤ g ∧ BoolsAt w' g s ∧ (∀ x, Sec x → (s.getD x.toNat false = true ↔ Way (dirF l back) n x)) ∧ Chg w w' No

set_option maxRecDepth 100000 in
set_option maxHeartbeats 4000000 in
theorem ways_forth (l : List (Int × Int)) (a : Option Addr) (ca : Nat) (n : Int) (w : World) (hl : l.length ≤ 16777216) (hE : EAt w a l) (hs : ∀ x, x ∈ l → Sec x.1 ∧ Sec x.2) :
    Calls Try.prog 25 #[.slice a l.length ca, .int .i64 n, .bool false] w (WaysPost l n false w) := by
  have hmk := make_FA
  have HE := hid hE
  generalize hN : l.length = N at *
  clear hE
  unfold WaysPost
  go_enter Try.func25, Try.ntmps25
  go_wp2_with fail
  have b0 : BoolsAt ((w.alloc (.cells FA 4)).alloc (.cells #[.int .i64 n] 3)) w.heap.size Fs := ⟨by rw [heap_alloc_if, if_neg (by simp), heap_alloc_if, if_pos rfl]; rfl, Fs_len⟩
  have q0 : Que ((w.alloc (.cells FA 4)).alloc (.cells #[.int .i64 n] 3)) w.heap.size (.slice (some ⟨w.heap.size + 1, 0, none⟩) 1 1) [n] :=
    ⟨w.heap.size + 1, 0, 1, #[.int .i64 n], rfl, by omega, by rw [heap_alloc_if, if_pos (by simp)], by simp, by simp, fun j x hj => by
      cases j with
      | zero => simp at hj; subst hj; rfl
      | succ j => simp at hj⟩
  have c0 : Chg w ((w.alloc (.cells FA 4)).alloc (.cells #[.int .i64 n] 3)) No := (Chg.alloc w _ No).trans (Chg.alloc _ _ No) (fun _ _ e => e) (fun _ _ e => e)
  generalize (w.alloc (.cells FA 4)).alloc (.cells #[.int .i64 n] 3) = w0 at *
  generalize hg : w.heap.size = g at *
  go_loopw [8] (fun v wr => ∃ (q : List Int) (s : List Bool) (wq : World), wq = wr ∧ Que wq g v q ∧ BoolsAt wq g s ∧ Bfs (dirF l false) n (Tof s) q ∧ Chg w wq No ∧ q.length + nF s ≤ 4097) (fun v wr => lenV v + falses wr g)
  case atStart =>
    refine ⟨[n], Fs, _, rfl, q0, b0, ⟨fun x hx => absurd hx (Tof_start x), fun x hx => .inl (by simpa using hx), fun x hx hq y _ => ?_⟩, c0, by have := nF_Fs; simp; omega⟩
    rcases hx with e | e
    · exact absurd (by simp [e]) hq
    · exact absurd e (Tof_start x)
  case round =>
    obtain ⟨q, s, wA, rfl, hq, hb, hB, hc, hM⟩ := hrel
    cases q with
    | nil =>
      obtain ⟨gq, oq, capq, cur, rfl, _⟩ := hq
      have hlen0 := len0
      go_wp2_with fail
      go_ret
      refine ⟨g, s, rfl, by omega, hb, fun x hx => ?_, hc⟩
      rw [← hB.end_ x]
      exact ⟨fun k => ⟨hx, k⟩, fun k => k.2⟩
    | cons x q =>
      obtain ⟨gq, oq, capq, rfl, hcx, hqc⟩ := hq.shape
      have hlx := hq.lenV
      have hfx := hb.falses
      have HQ0 := hid hq
      generalize hLq : q.length + 1 = L at *
      have HLq := hid hLq
      have hL0 : (0 : Int) < (L : Int) := by omega
      have HX := hid (And.intro hb (And.intro hB.pop (And.intro hc (And.intro hlx hfx))))
      clear hq hb hB hc hlx hfx hLq hqc
      go_wp2_with (first
        | (refine wp_pop rfl _ rfl g gq oq L capq x q rfl HLq.out.symm (HLq.out ▸ HQ0.out) ?_; intro v2 hv2)
        | go_in)
      obtain ⟨hb, hBI, hc, hlx, hfx⟩ := HX.out
      have HM0 := hid (And.intro hlx hfx)
      clear hlx hfx
      generalize hMM : q.length + nF s = MM
      have HMM := hid (show q.length + 1 + nF s ≤ 4097 by have := HLq.out; simp at hM; omega)
      clear hM
      go_loopw [8, 10] (fun v i wr => ∃ (k : Nat) (q2 : List Int) (s2 : List Bool) (wq : World), wq = wr ∧ k ≤ N ∧ i = .int .i64 k ∧ Que wq g v q2 ∧ BoolsAt wq g s2 ∧ BfsIn (dirF l false) n x (Tof s2) q2 (Dk l false x k) ∧ Chg w wq No ∧ q2.length + nF s2 = MM) (fun _ i _ => N - (intOf i).toNat)
      case atStart => exact ⟨0, q, s, _, rfl, by omega, rfl, hv2, hb, hBI.skip (fun y hy => by simp [Dk] at hy), hc, hMM⟩
      case round =>
        obtain ⟨k, q2, s2, wB, rfl, hk, rfl, hq2, hb2, hB2, hc2, hM2⟩ := hrel
        have hq2l : q2.length ≤ 5000 := by have := HMM.out; omega
        by_cases hlt : k < N
        · rcases HE.out.call hc2 with h0 | ⟨g1, rfl, hg1, h1⟩
          · rw [h0] at hN; simp at hN; omega
          obtain ⟨p1, p2⟩ := EAt.cells h1 (k := k) (by omega)
          have hDk := Dk_succ (l := l) (k := k) (by omega) false x
          have hyl : edK l k ∈ l := by
            have e : edK l k = l[k]'(by omega) := by simp [edK, show k < l.length by omega]
            rw [e]; exact List.getElem_mem _
          obtain ⟨hs1, hs2⟩ := hs _ hyl
          generalize edK l k = y at *
          have ht0 : 0 ≤ y.2 := hs2.1
          have ht1 : y.2 < 4096 := hs2.2
          have hi0 : (0 : Int) ≤ (k : Int) := by omega
          have hi1 : (k : Int) < (N : Int) := by omega
          have hsc := hb2.cell (j := (y.2).toNat) (by omega)
          have hsf := hb2.free (y.2).toNat
          have HY := hid (And.intro hq2 (And.intro hb2 (And.intro hB2 hc2)))
          have hsz2 := hc2.size
          clear h1 hq2 hb2 hB2
          by_cases hfr : y.1 = x
          · have hFy : dirF l false x y.2 := by
              unfold dirF
              rw [← hfr]
              simpa using hyl
            have hbe : (y.1 == x) = true := by simp [hfr]
            cases hsv : s2.getD (y.2).toNat false with
            | true =>
              rw [hsv] at hsc
              have hTo : Tof s2 y.2 := ⟨hs2, hsv⟩
              clear hsv
              go_wp2_with fail
              obtain ⟨hq2, hb2, hB2, hc2⟩ := HY.out
              go_roundw
              case rel => exact ⟨k + 1, q2, s2, _, rfl, by omega, by go_num, hq2, hb2, hB2.skip (fun z hz _ => ((hDk z).1 hz).elim .inl (fun e => .inr (by cases e; exact hTo))), hc2, hM2⟩
              case measure => simp [intOf]; omega
            | false =>
              rw [hsv] at hsc
              have hcs : Chg wB (wB.setCell ⟨g, (y.2).toNat, none⟩ (.bool true)) (· = g) := Chg.setCell
              have hQs := (HY.out.1.keep hcs (fun j hj e => HY.out.2.1.que HY.out.1 (e ▸ hj))).keep (Chg.alloc _ (.cells #[.int .i64 y.2] 3) No) (fun _ _ e => e)
              have hcell := cell0 (heap_alloc_new (wB.setCell ⟨g, (y.2).toNat, none⟩ (.bool true)) (.cells #[.int .i64 y.2] 3))
              have hszs : (wB.setCell ⟨g, (y.2).toNat, none⟩ (.bool true)).heap.size = wB.heap.size := by simp [World.setCell]
              rw [hszs] at hcell
              have HSV := hid hsv
              clear hsv
              go_wp2_with (first
                | (at_builtin; go_must (refine wp_push rfl _ _ rfl g wB.heap.size 1 _ q2 y.2 rfl rfl hQs hcell (by omega) (by simp [hszs]; omega) ?_; intro v6 w6 h61 h62))
                | go_in)
              obtain ⟨hq2, hb2, hB2, hc2⟩ := HY.out
              have hbs := (hb2.set (y.2).toNat true).keep (Chg.alloc _ (.cells #[.int .i64 y.2] 3) No) (fun e => e)
              have hb6 := hbs.keep h62 (hbs.que hQs)
              have hc6 : Chg w w6 No := hc2.trans (hcs.trans ((Chg.alloc _ (.cells #[.int .i64 y.2] 3) No).trans h62 (c := fun k => g ≤ k) (fun _ _ e => e.elim) (fun j _ e => (hQs.kind e).1)) (c := fun k => g ≤ k) (fun j _ e => by omega) (fun _ _ e => e)) (fun _ _ e => e) (fun j hj e => by omega)
              have hnf := nF_set s2 (y.2).toNat (by rw [List.getD_eq_getElem?_getD, List.getElem?_eq_getElem (by rw [hb2.2]; omega)]; have := HSV.out; rw [List.getD_eq_getElem?_getD, List.getElem?_eq_getElem (by rw [hb2.2]; omega)] at this; exact this)
              go_roundw
              case rel => exact ⟨k + 1, q2 ++ [y.2], s2.set (y.2).toNat true, _, rfl, by omega, by go_num, h61, hb6, hB2.push hFy (Tof_set hb2.2 hs2) (fun z hz _ => ((hDk z).1 hz).elim .inl (fun e => .inr (by cases e; rfl))), hc6, by simp; omega⟩
              case measure => simp [intOf]; omega
          · have hbe : (y.1 == x) = false := by simp [hfr]
            go_wp2_with fail
            obtain ⟨hq2, hb2, hB2, hc2⟩ := HY.out
            go_roundw
            case rel => exact ⟨k + 1, q2, s2, _, rfl, by omega, by go_num, hq2, hb2, hB2.skip (fun z hz _ => ((hDk z).1 hz).elim .inl (fun e => by cases e; exact absurd rfl hfr)), hc2, hM2⟩
            case measure => simp [intOf]; omega
        · obtain rfl : k = N := by omega
          have HY := hid (And.intro hq2 (And.intro hb2 (And.intro hB2 hc2)))
          clear hq2 hb2 hB2 hc2
          go_wp2_with fail
          obtain ⟨hq2, hb2, hB2, hc2⟩ := HY.out
          obtain ⟨hlx, hfx⟩ := HM0.out
          have hLL := HLq.out
          have hmm := HMM.out
          go_roundw
          case rel => exact ⟨q2, s2, _, rfl, hq2, hb2, hB2.end_ (fun z hz => by unfold Dk; rw [← hN, List.take_length]; exact hz), hc2, by omega⟩
          case measure => rw [hq2.lenV, hb2.falses, hlx, hfx]; simp; omega

set_option maxRecDepth 100000 in
set_option maxHeartbeats 4000000 in
theorem ways_back (l : List (Int × Int)) (a : Option Addr) (ca : Nat) (n : Int) (w : World) (hl : l.length ≤ 16777216) (hE : EAt w a l) (hs : ∀ x, x ∈ l → Sec x.1 ∧ Sec x.2) :
    Calls Try.prog 25 #[.slice a l.length ca, .int .i64 n, .bool true] w (WaysPost l n true w) := by
  have hmk := make_FA
  have HE := hid hE
  generalize hN : l.length = N at *
  clear hE
  unfold WaysPost
  go_enter Try.func25, Try.ntmps25
  go_wp2_with fail
  have b0 : BoolsAt ((w.alloc (.cells FA 4)).alloc (.cells #[.int .i64 n] 3)) w.heap.size Fs := ⟨by rw [heap_alloc_if, if_neg (by simp), heap_alloc_if, if_pos rfl]; rfl, Fs_len⟩
  have q0 : Que ((w.alloc (.cells FA 4)).alloc (.cells #[.int .i64 n] 3)) w.heap.size (.slice (some ⟨w.heap.size + 1, 0, none⟩) 1 1) [n] :=
    ⟨w.heap.size + 1, 0, 1, #[.int .i64 n], rfl, by omega, by rw [heap_alloc_if, if_pos (by simp)], by simp, by simp, fun j x hj => by
      cases j with
      | zero => simp at hj; subst hj; rfl
      | succ j => simp at hj⟩
  have c0 : Chg w ((w.alloc (.cells FA 4)).alloc (.cells #[.int .i64 n] 3)) No := (Chg.alloc w _ No).trans (Chg.alloc _ _ No) (fun _ _ e => e) (fun _ _ e => e)
  generalize (w.alloc (.cells FA 4)).alloc (.cells #[.int .i64 n] 3) = w0 at *
  generalize hg : w.heap.size = g at *
  go_loopw [8] (fun v wr => ∃ (q : List Int) (s : List Bool) (wq : World), wq = wr ∧ Que wq g v q ∧ BoolsAt wq g s ∧ Bfs (dirF l true) n (Tof s) q ∧ Chg w wq No ∧ q.length + nF s ≤ 4097) (fun v wr => lenV v + falses wr g)
  case atStart =>
    refine ⟨[n], Fs, _, rfl, q0, b0, ⟨fun x hx => absurd hx (Tof_start x), fun x hx => .inl (by simpa using hx), fun x hx hq y _ => ?_⟩, c0, by have := nF_Fs; simp; omega⟩
    rcases hx with e | e
    · exact absurd (by simp [e]) hq
    · exact absurd e (Tof_start x)
  case round =>
    obtain ⟨q, s, wA, rfl, hq, hb, hB, hc, hM⟩ := hrel
    cases q with
    | nil =>
      obtain ⟨gq, oq, capq, cur, rfl, _⟩ := hq
      have hlen0 := len0
      go_wp2_with fail
      go_ret
      refine ⟨g, s, rfl, by omega, hb, fun x hx => ?_, hc⟩
      rw [← hB.end_ x]
      exact ⟨fun k => ⟨hx, k⟩, fun k => k.2⟩
    | cons x q =>
      obtain ⟨gq, oq, capq, rfl, hcx, hqc⟩ := hq.shape
      have hlx := hq.lenV
      have hfx := hb.falses
      have HQ0 := hid hq
      generalize hLq : q.length + 1 = L at *
      have HLq := hid hLq
      have hL0 : (0 : Int) < (L : Int) := by omega
      have HX := hid (And.intro hb (And.intro hB.pop (And.intro hc (And.intro hlx hfx))))
      clear hq hb hB hc hlx hfx hLq hqc
      go_wp2_with (first
        | (refine wp_pop rfl _ rfl g gq oq L capq x q rfl HLq.out.symm (HLq.out ▸ HQ0.out) ?_; intro v2 hv2)
        | go_in)
      obtain ⟨hb, hBI, hc, hlx, hfx⟩ := HX.out
      have HM0 := hid (And.intro hlx hfx)
      clear hlx hfx
      generalize hMM : q.length + nF s = MM
      have HMM := hid (show q.length + 1 + nF s ≤ 4097 by have := HLq.out; simp at hM; omega)
      clear hM
      go_loopw [8, 10] (fun v i wr => ∃ (k : Nat) (q2 : List Int) (s2 : List Bool) (wq : World), wq = wr ∧ k ≤ N ∧ i = .int .i64 k ∧ Que wq g v q2 ∧ BoolsAt wq g s2 ∧ BfsIn (dirF l true) n x (Tof s2) q2 (Dk l true x k) ∧ Chg w wq No ∧ q2.length + nF s2 = MM) (fun _ i _ => N - (intOf i).toNat)
      case atStart => exact ⟨0, q, s, _, rfl, by omega, rfl, hv2, hb, hBI.skip (fun y hy => by simp [Dk] at hy), hc, hMM⟩
      case round =>
        obtain ⟨k, q2, s2, wB, rfl, hk, rfl, hq2, hb2, hB2, hc2, hM2⟩ := hrel
        have hq2l : q2.length ≤ 5000 := by have := HMM.out; omega
        by_cases hlt : k < N
        · rcases HE.out.call hc2 with h0 | ⟨g1, rfl, hg1, h1⟩
          · rw [h0] at hN; simp at hN; omega
          obtain ⟨p1, p2⟩ := EAt.cells h1 (k := k) (by omega)
          have hDk := Dk_succ (l := l) (k := k) (by omega) true x
          have hyl : edK l k ∈ l := by
            have e : edK l k = l[k]'(by omega) := by simp [edK, show k < l.length by omega]
            rw [e]; exact List.getElem_mem _
          obtain ⟨hs1, hs2⟩ := hs _ hyl
          generalize edK l k = y at *
          have ht0 : 0 ≤ y.1 := hs1.1
          have ht1 : y.1 < 4096 := hs1.2
          have hi0 : (0 : Int) ≤ (k : Int) := by omega
          have hi1 : (k : Int) < (N : Int) := by omega
          have hsc := hb2.cell (j := (y.1).toNat) (by omega)
          have hsf := hb2.free (y.1).toNat
          have HY := hid (And.intro hq2 (And.intro hb2 (And.intro hB2 hc2)))
          have hsz2 := hc2.size
          clear h1 hq2 hb2 hB2
          by_cases hfr : y.2 = x
          · have hFy : dirF l true x y.1 := by
              unfold dirF
              rw [← hfr]
              simpa using hyl
            have hbe : (y.2 == x) = true := by simp [hfr]
            cases hsv : s2.getD (y.1).toNat false with
            | true =>
              rw [hsv] at hsc
              have hTo : Tof s2 y.1 := ⟨hs1, hsv⟩
              clear hsv
              go_wp2_with fail
              obtain ⟨hq2, hb2, hB2, hc2⟩ := HY.out
              go_roundw
              case rel => exact ⟨k + 1, q2, s2, _, rfl, by omega, by go_num, hq2, hb2, hB2.skip (fun z hz _ => ((hDk z).1 hz).elim .inl (fun e => .inr (by cases e; exact hTo))), hc2, hM2⟩
              case measure => simp [intOf]; omega
            | false =>
              rw [hsv] at hsc
              have hcs : Chg wB (wB.setCell ⟨g, (y.1).toNat, none⟩ (.bool true)) (· = g) := Chg.setCell
              have hQs := (HY.out.1.keep hcs (fun j hj e => HY.out.2.1.que HY.out.1 (e ▸ hj))).keep (Chg.alloc _ (.cells #[.int .i64 y.1] 3) No) (fun _ _ e => e)
              have hcell := cell0 (heap_alloc_new (wB.setCell ⟨g, (y.1).toNat, none⟩ (.bool true)) (.cells #[.int .i64 y.1] 3))
              have hszs : (wB.setCell ⟨g, (y.1).toNat, none⟩ (.bool true)).heap.size = wB.heap.size := by simp [World.setCell]
              rw [hszs] at hcell
              have HSV := hid hsv
              clear hsv
              go_wp2_with (first
                | (at_builtin; go_must (refine wp_push rfl _ _ rfl g wB.heap.size 1 _ q2 y.1 rfl rfl hQs hcell (by omega) (by simp [hszs]; omega) ?_; intro v6 w6 h61 h62))
                | go_in)
              obtain ⟨hq2, hb2, hB2, hc2⟩ := HY.out
              have hbs := (hb2.set (y.1).toNat true).keep (Chg.alloc _ (.cells #[.int .i64 y.1] 3) No) (fun e => e)
              have hb6 := hbs.keep h62 (hbs.que hQs)
              have hc6 : Chg w w6 No := hc2.trans (hcs.trans ((Chg.alloc _ (.cells #[.int .i64 y.1] 3) No).trans h62 (c := fun k => g ≤ k) (fun _ _ e => e.elim) (fun j _ e => (hQs.kind e).1)) (c := fun k => g ≤ k) (fun j _ e => by omega) (fun _ _ e => e)) (fun _ _ e => e) (fun j hj e => by omega)
              have hnf := nF_set s2 (y.1).toNat (by rw [List.getD_eq_getElem?_getD, List.getElem?_eq_getElem (by rw [hb2.2]; omega)]; have := HSV.out; rw [List.getD_eq_getElem?_getD, List.getElem?_eq_getElem (by rw [hb2.2]; omega)] at this; exact this)
              go_roundw
              case rel => exact ⟨k + 1, q2 ++ [y.1], s2.set (y.1).toNat true, _, rfl, by omega, by go_num, h61, hb6, hB2.push hFy (Tof_set hb2.2 hs1) (fun z hz _ => ((hDk z).1 hz).elim .inl (fun e => .inr (by cases e; rfl))), hc6, by simp; omega⟩
              case measure => simp [intOf]; omega
          · have hbe : (y.2 == x) = false := by simp [hfr]
            go_wp2_with fail
            obtain ⟨hq2, hb2, hB2, hc2⟩ := HY.out
            go_roundw
            case rel => exact ⟨k + 1, q2, s2, _, rfl, by omega, by go_num, hq2, hb2, hB2.skip (fun z hz _ => ((hDk z).1 hz).elim .inl (fun e => by cases e; exact absurd rfl hfr)), hc2, hM2⟩
            case measure => simp [intOf]; omega
        · obtain rfl : k = N := by omega
          have HY := hid (And.intro hq2 (And.intro hb2 (And.intro hB2 hc2)))
          clear hq2 hb2 hB2 hc2
          go_wp2_with fail
          obtain ⟨hq2, hb2, hB2, hc2⟩ := HY.out
          obtain ⟨hlx, hfx⟩ := HM0.out
          have hLL := HLq.out
          have hmm := HMM.out
          go_roundw
          case rel => exact ⟨q2, s2, _, rfl, hq2, hb2, hB2.end_ (fun z hz => by unfold Dk; rw [← hN, List.take_length]; exact hz), hc2, by omega⟩
          case measure => rw [hq2.lenV, hb2.falses, hlx, hfx]; simp; omega

end Go.Proofs.Ytjnafcogdakbbaa
