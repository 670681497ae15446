/-
  package plain: walking names from the root.
-/
import Derived.Test.YtbkddnibcpjkgaaDoorPT
import Derived.Test.YtbkddnibcpjkgaaDoorPS
namespace Go.Proofs.YtbkddnibcpjkgaaDoor
open Go.RowKit

/-- What stays true of a plain file system. -/
structure OkS (s : PSt) : Prop where
  root : s.nd 1 ≠ none
  nm : ∀ i x n k, s.nd i = some x → x.nm n = some k → 0 ≤ k ∧ k < x.sl.length ∧ s.nd (x.sl.getD k.toNat 0) ≠ none
/-- Names, walked: the inode, and the error. -/
def walkL (s : PSt) : List ByteArray → Int → Int × Int
  | [], i => (i, 0)
  | n :: l, i => match s.nd i with
    | none => (0, 110)
    | some x => if x.kind = 2 then (match findN x n with | none => (0, 110) | some j => walkL s l j) else (0, 113)
theorem walkL_step {s : PSt} {n : ByteArray} {l : List ByteArray} {i : Int} {x : Nd} (hx : s.nd i = some x) : walkL s (n :: l) i = if x.kind = 2 then (match findN x n with | none => (0, 110) | some j => walkL s l j) else (0, 113) := by
  show (match s.nd i with | none => _ | some x => _) = _
  rw [hx]
theorem drop_getD {l : List ByteArray} {j : Nat} (h : j < l.length) : l.drop j = l.getD j ByteArray.empty :: l.drop (j + 1) := by
  rw [List.drop_eq_getElem_cons h, List.getD_eq_getElem?_getD, List.getElem?_eq_getElem h]
  rfl
section
variable {w : World} {q : PC} {s : PSt}
/-- A node that is there. -/
theorem IsPl.at_ (h : IsPl w q s) {i : Int} (hi : s.nd i ≠ none) : ∃ c x, q.nc i = some c ∧ s.nd i = some x ∧ IsN w c x ∧ 1 ≤ i ∧ i ≤ 512 := by
  cases hq : q.nc i with
  | none => exact absurd (h.dom i hq) hi
  | some c =>
    obtain ⟨x, h1, h2⟩ := h.nd i c hq
    have := h.rng i (by rw [hq]; intro e; cases e)
    exact ⟨c, x, rfl, h1, h2, this.1, this.2⟩
end

set_option maxHeartbeats 2000000 in
set_option maxRecDepth 100000 in
theorem walk_any {q : PC} {s : PSt} (ls : List ByteArray) (a : Option Addr) (cp : Nat) (w : World) (h : IsPl w q s) (ho : OkS s) (hl : LAt w a ls) (hb : ls.length ≤ 1000) (hn : ∀ x ∈ ls, x.size ≤ 1000) :
    Calls Tryd.prog 18 #[.pointer (some ⟨q.p, 0, none⟩), .slice a ls.length cp] w fun e w' => e = .returned (.tuple #[.int .i64 (walkL s ls 1).1, .int .i64 (walkL s ls 1).2]) ∧ w' = w := by
  have HP := hid h
  have HO := hid ho
  have HL := hid hl
  have HNs := hid hn
  have c2 := h.c2
  obtain ⟨fm, hfm⟩ : ∃ y, y = (fun i => (q.nc i).map ptrN) := ⟨_, rfl⟩
  have HM : Hid (MapV w q.mb fm) := hid (by rw [hfm]; exact h.mp)
  have HFm := hid hfm
  obtain ⟨R, hR⟩ : ∃ y, y = walkL s ls 1 := ⟨_, rfl⟩
  have HR : Hid (R = walkL s ls 1) := hid hR
  obtain ⟨R1, R2⟩ := R
  rw [← hR]
  obtain ⟨n, hnn⟩ : ∃ y, y = ls.length := ⟨_, rfl⟩
  have HN := hid hnn
  rw [← hnn] at hb ⊢
  have G0 : Hid (s.nd 1 ≠ none ∧ (R1, R2) = walkL s (ls.drop 0) 1) := hid ⟨ho.root, HR.out⟩
  clear h ho hl hn hfm hR hnn HR
  go_enter Tryd.func18, Tryd.ntmps18
  go_wp2_with fail
  go_loopw [6, 13] (fun x6 x13 wr => ∃ (i : Int) (j : Nat), x6 = .int .i64 i ∧ x13 = .int .i64 (j : Int) ∧ j ≤ n ∧ wr = w ∧ Hid (s.nd i ≠ none ∧ (R1, R2) = walkL s (ls.drop j) i)) (fun _ x13 _ => n - (intOf x13).toNat)
  case atStart => exact ⟨1, 0, rfl, rfl, by omega, rfl, G0⟩
  case round =>
    obtain ⟨i, j, rfl, rfl, hj, rfl, HX⟩ := hrel
    clear G0
    by_cases hlt : j < n
    · have j0 : (0 : Int) ≤ (j : Int) := by omega
      have j1 : (j : Int) < (n : Int) := by omega
      have j2 : (j : Int) ≤ 1000 := by omega
      have hjl : j < ls.length := by rw [← HN.out]; exact hlt
      obtain ⟨g, hga, q5⟩ : ∃ g, a = some ⟨g, 0, none⟩ ∧ wr.cell? ⟨g, j, none⟩ = some (.string (ls.getD j ByteArray.empty)) := by
        rcases HL.out with e | ⟨g, e1, _, e3⟩
        · rw [e] at hjl; simp at hjl
        · exact ⟨g, e1, e3 j _ (getS hjl)⟩
      have HD := hid (drop_getD hjl)
      have hnz : (ls.getD j ByteArray.empty).size ≤ 1000 := HNs.out _ (by rw [List.getD_eq_getElem?_getD, List.getElem?_eq_getElem hjl]; exact List.getElem_mem hjl)
      obtain ⟨nm, hnm⟩ : ∃ y, y = ls.getD j ByteArray.empty := ⟨_, rfl⟩
      rw [← hnm] at q5 HD hnz
      subst hga
      obtain ⟨c, x, hqc, hsx, hIN, r1, r2⟩ := HP.out.at_ HX.out.1
      have hI : I64 i := ⟨by omega, by omega⟩
      have HFi : Hid ((match fm i with | some v => v | none => Value.pointer none) = .pointer (some ⟨c.p, 0, none⟩)) := hid (by rw [HFm.out]; simp only [hqc, Option.map_some]; rfl)
      have hDr := isDirectory_any wr hIN
      have hFd := find_any nm wr hIN hnz (fun k hk => by have := HO.out.nm i x nm k hsx hk; exact ⟨this.1, this.2.1⟩)
      have HW : Hid ((R1, R2) = if x.kind = 2 then (match findN x nm with | none => (0, 110) | some z => walkL s (ls.drop (j + 1)) z) else (0, 113)) := hid (by rw [HX.out.2, HD.out]; exact walkL_step hsx)
      have HFz : Hid (∀ z, findN x nm = some z → s.nd z ≠ none) := hid (fun z hz => by
        unfold findN at hz
        cases hk : x.nm nm with
        | none => rw [hk] at hz; cases hz
        | some k =>
          rw [hk] at hz
          have e : x.sl.getD k.toNat 0 = z := Option.some.inj hz
          rw [← e]
          exact (HO.out.nm i x nm k hsx hk).2.2)
      obtain ⟨fo, hfo⟩ : ∃ y, y = findN x nm := ⟨_, rfl⟩
      rw [← hfo] at hFd HW HFz
      clear hqc hsx hIN hnm hfo HX r1 r2 hjl HD HNs
      by_cases hk : x.kind = 2
      · rw [decide_eq_true hk] at hDr
        rw [if_pos hk] at HW
        clear hk
        cases fo with
        | none =>
          have e1 : R1 = 0 := congrArg Prod.fst HW.out
          have e2 : R2 = 110 := congrArg Prod.snd HW.out
          subst e1 e2
          clear HW HFz
          go_wp2_with (first
            | (at_lookup; go_must (refine wp_lookVN rfl _ _ rfl q.mb fm i _ HFi.out rfl rfl HM.out hI ?_))
            | (go_at_call 29; go_must (refine hDr.mono ?_; rintro e w1 ⟨rfl, rfl⟩))
            | (go_at_call 35; go_must (refine hFd.mono ?_; rintro e w1 ⟨rfl, rfl⟩))
            | fail)
          go_ret2
          exact ⟨rfl, rfl⟩
        | some z =>
          have HNx : Hid (s.nd z ≠ none ∧ (R1, R2) = walkL s (ls.drop (j + 1)) z) := hid ⟨HFz.out z rfl, HW.out⟩
          clear HW HFz
          go_wp2_with (first
            | (at_lookup; go_must (refine wp_lookVN rfl _ _ rfl q.mb fm i _ HFi.out rfl rfl HM.out hI ?_))
            | (go_at_call 29; go_must (refine hDr.mono ?_; rintro e w1 ⟨rfl, rfl⟩))
            | (go_at_call 35; go_must (refine hFd.mono ?_; rintro e w1 ⟨rfl, rfl⟩))
            | fail)
          exact ⟨⟨z, j + 1, rfl, by go_num, by omega, by trivial, HNx⟩, by simp [intOf]; omega⟩
      · rw [decide_eq_false hk] at hDr
        rw [if_neg hk] at HW
        have e1 : R1 = 0 := congrArg Prod.fst HW.out
        have e2 : R2 = 113 := congrArg Prod.snd HW.out
        subst e1 e2
        clear hk HW HFz
        go_wp2_with (first
          | (at_lookup; go_must (refine wp_lookVN rfl _ _ rfl q.mb fm i _ HFi.out rfl rfl HM.out hI ?_))
          | (go_at_call 29; go_must (refine hDr.mono ?_; rintro e w1 ⟨rfl, rfl⟩))
          | fail)
        go_ret2
        exact ⟨rfl, rfl⟩
    · have j1 : ¬ (j : Int) < (n : Int) := by omega
      have hdr : ls.drop j = [] := List.drop_eq_nil_of_le (by have := HN.out; omega)
      have hW := HX.out.2
      rw [hdr] at hW
      have e1 : R1 = i := congrArg Prod.fst hW
      have e2 : R2 = 0 := congrArg Prod.snd hW
      subst e1 e2
      clear hW hdr HX
      go_wp2_with fail
      go_ret2
      exact ⟨rfl, rfl⟩
end Go.Proofs.YtbkddnibcpjkgaaDoor
