/-
  An inode that is taken up: what a pointer's keeper answers and turns; a block's.
-/
import Derived.Test.YtpmignilhoihnaaGreatC1
import Derived.Test.YtpmignilhoihnaaGreatLD
import Derived.Maps.AppendAt
namespace Go.Proofs.YtpmignilhoihnaaGreat
open Go.RowKit Go.Shelf

section
variable {ops : Array Oper} {rest : List Oper} {o : Oper} {a : Act} {w : World} {Q : Exit → Act → World → Prop}
/-- Part of a row is read. -/
theorem load_mid (t : TypeId) (x : Operand) (ho : o.op = .load t x) (g off : Nat) (hx : a.eval x = .pointer (some ⟨g, off, none⟩)) (cs : List Value) (d : TypeDesc) (hr : w.rangeAt g off cs)
    (hu : Tryz.prog.underlying t = some d) (hd : d.isRow = true) (hi : (Tryz.prog.info? t).map (·.size) = some cs.length) (hw : Region.wanted o (yielded ops a.tmps) = true)
    (h : wpList Tryz.prog ops Q rest (a.put o.dst (.agg cs.toArray)) w) : wpList Tryz.prog ops Q (o :: rest) a w :=
  wpList_want hw fun _ hK => by
    unfold Oper.wp execOp
    simp only [ho, hx, Instr.loadAt, Instr.sureAddr, Sem.run_bind, Sem.run_pure, Result.andThen_ok, run_loadVar_mid w g off t cs d hr hu hd hi]
    exact hK _ _ h
end
theorem IsP.sup {w : World} {c : LC} (h : IsP w c) : w.rangeAt c.b.p 0 [.int .i64 (c.N : Int), .int .i64 (c.M : Int)] := by
  intro j v hv
  rw [Nat.zero_add, cell_of_row _ _ _ _ _ _ h.me]
  match j, hv with
  | 0, hv => simp at hv; subst hv; rfl
  | 1, hv => simp at hv; subst hv; rfl
  | j + 2, hv => simp at hv
theorem szSup : (Tryz.prog.info? 42).map (·.size) = some 2 := by kernel_rfl
theorem few_cl {c : LC} {cl : Int → Bool} {w : World} (h : ClOk c cl) (hp : IsP w c) : ∃ L : List Int, L.length ≤ 5000 ∧ ∀ x, cl x = true → x ∈ L := by
  refine ⟨(List.range 4096).map Int.ofNat, by simp, fun x hx => ?_⟩
  obtain ⟨h1, h2⟩ := h x hx
  have := hp.n2
  exact List.mem_map.2 ⟨x.toNat, List.mem_range.2 (by omega), by show ((x.toNat : Nat) : Int) = x; omega⟩
theorem IsP.ne_cb {w : World} {c : LC} {wt : Img} {cl : Int → Bool} (h : IsP w c) (k : IsW w c wt cl) : c.b.p ≠ c.b.cb ∧ c.b.wb ≠ c.b.cb := by
  obtain ⟨es, ck, hm⟩ := k.cl.isMap
  obtain ⟨A, hA⟩ := k.wt.isRow
  exact ⟨obj_ne h.me hm (by intro e; cases e), obj_ne hA hm (by intro e; cases e)⟩
/-- Where only what is claimed turns. -/
theorem IsP.cl {w w' : World} {c : LC} {wt : Img} {cl : Int → Bool} (h : IsP w c) (k : IsW w c wt cl) (hc : Chg w w' (· = c.b.cb)) : IsP w' c :=
  h.keep hc (h.ne_cb k).1 (fun _ e => e ▸ h.b1)

end Go.Proofs.YtpmignilhoihnaaGreat

namespace Go.Proofs.YtpmignilhoihnaaGreat
open Go.RowKit Go.Shelf

set_option maxRecDepth 100000 in
set_option maxHeartbeats 1000000 in
theorem claim_any {c : LC} {wt : Img} {cl : Int → Bool} (n : Int) (w : World) (hp : IsP w c) (hw : IsW w c wt cl) (hn : I64 n) :
    Calls Tryz.prog 78 #[.pointer (some ⟨c.b.p, 0, none⟩), .int .i64 n] w fun e w' => e = .returned (.bool (claimB c.N c.M cl n)) ∧ IsP w' c ∧ IsW w' c wt (if claimB c.N c.M cl n then putC cl n else cl) ∧ Chg w w' (· = c.b.cb) := by
  have hu := zeroU
  have c4 := hp.c4
  have HP := hid hp
  have HW := hid hw
  have HA := hid (Chg.alloc w (.cells #[] 92) No)
  have hS := hw.cl
  have hSA := hS.keep HA.out (fun e => e)
  have c4A : (w.alloc (.cells #[] 92)).cell? ⟨c.b.p, 4, none⟩ = some (.map (some c.b.cb)) := (hp.call HA.out).c4
  have hID := isData_any (c.N : Int) (c.M : Int) n (w.alloc (.cells #[] 92))
  have d0 := (hp.call HA.out).c0
  have d1 := (hp.call HA.out).c1
  have hfew := few_cl hw.ck hp
  clear hp hw
  by_cases h1 : cl n = true
  · have hB : claimB c.N c.M cl n = false := by simp [claimB, h1]
    rw [hB]
    go_enter Tryz.func78, Tryz.ntmps78
    go_wp2_with (first
      | (at_lookup; go_must (refine wp_ok rfl _ _ rfl c.b.cb _ n rfl rfl hS hn ?_; intro r hr; obtain rfl : r = true := hr.2 h1; clear hr))
      | fail)
    go_ret
    exact ⟨rfl, HP.out.call HA.out, HW.out.call HA.out, HA.out.mono fun _ _ e => e.elim⟩
  · have h1f : cl n = false := by simpa using h1
    cases h2 : dataB c.M c.N n
    · have hB : claimB c.N c.M cl n = false := by simp [claimB, h2]
      rw [hB]
      rw [h2] at hID
      go_enter Tryz.func78, Tryz.ntmps78
      go_wp2_with (first
        | (at_lookup; go_must (refine wp_ok rfl _ _ rfl c.b.cb _ n rfl rfl hS hn ?_; intro r hr; obtain rfl : r = false := (by cases r; rfl; exact absurd (hr.1 rfl) h1); clear hr))
        | (go_at_call 115; go_must (refine hID.mono ?_; rintro e w2 ⟨rfl, hb2⟩))
        | fail)
      go_ret
      have hc2 := HA.out.trans (Chg.of_below hb2 No) (c := No) (fun _ _ e => e) (fun _ _ e => e)
      exact ⟨rfl, HP.out.call hc2, HW.out.call hc2, hc2.mono fun _ _ e => e.elim⟩
    · have hB : claimB c.N c.M cl n = true := by simp [claimB, h2, h1f]
      rw [hB]
      rw [h2] at hID
      have hd : (c.M : Int) < n ∧ n < c.N := by simpa [dataB] using h2
      go_enter Tryz.func78, Tryz.ntmps78
      go_wp2_with (first
        | (at_lookup; go_must (refine wp_ok rfl _ _ rfl c.b.cb _ n rfl rfl hS hn ?_; intro r hr; obtain rfl : r = false := (by cases r; rfl; exact absurd (hr.1 rfl) h1); clear hr))
        | (go_at_call 115; go_must (refine hID.mono ?_; rintro e w2 ⟨rfl, hb2⟩; have hc2 := HA.out.trans (Chg.of_below hb2 No) (c := No) (fun _ _ e => e) (fun _ _ e => e); have c42 := (HP.out.call hc2).c4; have hS2 := (HW.out.call hc2).cl))
        | (at_mapUpdate; go_must (refine wp_storeS rfl _ _ _ rfl c.b.cb _ n rfl rfl rfl hS2 hn hfew ?_; intro w3 hs3 hc3 hz3))
        | fail)
      go_ret
      have hp2 := HP.out.call hc2
      have hw2 := HW.out.call hc2
      refine ⟨rfl, hp2.cl hw2 hc3, ⟨hw2.wt.keep hc3 (hp2.ne_cb hw2).2, hw2.wl, hs3.cong fun x => by simp [putC], fun x hx => ?_⟩, hc2.trans hc3 (fun _ _ e => e.elim) (fun _ _ e => e)⟩
      simp only [putC, Bool.or_eq_true, beq_iff_eq] at hx
      rcases hx with rfl | hx
      · exact hd
      · exact HW.out.ck x hx

end Go.Proofs.YtpmignilhoihnaaGreat

namespace Go.Proofs.YtpmignilhoihnaaGreat
open Go.RowKit Go.Shelf

/-- The cells of blocks that were found. -/
def cellsP : List (Int × Int) → List Value
  | [] => []
  | x :: l => .int .i64 x.1 :: .int .i64 x.2 :: cellsP l
theorem cellsP_len : ∀ l, (cellsP l).length = l.length * 2
  | [] => rfl
  | _ :: l => by simp [cellsP, cellsP_len l]; omega
theorem cellsP_append : ∀ l m, cellsP (l ++ m) = cellsP l ++ cellsP m
  | [], _ => rfl
  | _ :: l, m => by simp [cellsP, cellsP_append l m]
theorem cellsP_get : ∀ (l : List (Int × Int)) (j : Nat), (cellsP l)[2 * j]? = (l[j]?).map (fun x => Value.int .i64 x.1) ∧ (cellsP l)[2 * j + 1]? = (l[j]?).map (fun x => Value.int .i64 x.2)
  | [], j => by simp [cellsP]
  | x :: l, 0 => by simp [cellsP]
  | x :: l, j + 1 => by
    have := cellsP_get l j
    rw [show 2 * (j + 1) = 2 * j + 1 + 1 by omega]
    simp only [cellsP, List.getElem?_cons_succ]
    exact this

/-- A look while an inode is taken up. -/
structure TE (w : World) (c : LC) (sb : Nat) (s : TS) : Prop where
  p : IsP w c
  k : IsW w c s.wt s.cl
  bs : c.B ≤ sb
  sp : ∃ v, w.heap[sb]? = some (.cells #[v] 111 (0, 0)) ∧ w.ownsRow c.B 116 2 v s.sp.length (cellsP s.sp)
/-- What is turned then. -/
def Kt (c : LC) (sb : Nat) (w : World) (k : Nat) : Prop := c.B ≤ k ∧ (k = c.b.wb ∨ k = c.b.cb ∨ k = sb ∨ ∃ A, w.heap[k]? = some (.cells A 116 (0, 0)))
section
variable {w w1 w2 w' : World} {c : LC} {sb : Nat} {s : TS}
theorem kt_trans (h : Chg w w1 (Kt c sb w)) (k : Chg w1 w2 (Kt c sb w1)) : Chg w w2 (Kt c sb w) :=
  h.trans k (fun _ _ e => e) (fun j hj e => by
    by_cases hn : Kt c sb w j
    · exact hn
    rcases e with ⟨hB, e | e | e | ⟨A, e⟩⟩
    · exact ⟨hB, .inl e⟩
    · exact ⟨hB, .inr (.inl e)⟩
    · exact ⟨hB, .inr (.inr (.inl e))⟩
    · rw [h.block j hj hn] at e
      exact ⟨hB, .inr (.inr (.inr ⟨A, e⟩))⟩)
theorem kt_no (h : Chg w w' No) : Chg w w' (Kt c sb w) := h.mono fun _ _ e => e.elim
theorem TE.not (h : TE w c sb s) {g : Nat} {A : Array Value} {t : TypeId} {f : Nat × Nat} (hb : w.heap[g]? = some (.cells A t f)) (h1 : t ≠ 33) (h2 : t ≠ 111) (h3 : t ≠ 116) : ¬ Kt c sb w g := by
  obtain ⟨es, ck, hm⟩ := h.k.cl.isMap
  obtain ⟨B, hB⟩ := h.k.wt.isRow
  obtain ⟨v, hv, _⟩ := h.sp
  rintro ⟨_, rfl | rfl | rfl | ⟨C, e⟩⟩
  · rw [hB] at hb; cases hb; exact h1 rfl
  · rw [hm] at hb; cases hb
  · rw [hv] at hb; cases hb; exact h2 rfl
  · rw [e] at hb; cases hb; exact h3 rfl
/-- Blocks of other types stay. -/
theorem TE.stay (h : TE w c sb s) {g : Nat} {A : Array Value} {t : TypeId} {f : Nat × Nat} (hb : w.heap[g]? = some (.cells A t f)) (h1 : t ≠ 33) (h2 : t ≠ 111) (h3 : t ≠ 116) (hc : Chg w w' (Kt c sb w)) : w'.heap[g]? = some (.cells A t f) :=
  hc.keep hb (h.not hb h1 h2 h3)
theorem TE.call (h : TE w c sb s) (hc : Chg w w' No) : TE w' c sb s := by
  obtain ⟨v, h1, h2⟩ := h.sp
  refine ⟨h.p.call hc, h.k.call hc, h.bs, v, hc.keep h1 (fun e => e), ?_⟩
  refine ⟨h2.1, ?_⟩
  rcases h2.2 with k | ⟨g, cap, cur, rfl, hb, hg, r⟩
  · exact .inl k
  · exact .inr ⟨g, cap, cur, rfl, hb, hc.keep hg (fun e => e), r⟩
/-- What is claimed has turned. -/
theorem TE.claims (h : TE w c sb s) {cl : Int → Bool} (hp : IsP w' c) (hk : IsW w' c s.wt cl) (hc : Chg w w' (· = c.b.cb)) : TE w' c sb ⟨s.wt, cl, s.sp⟩ := by
  obtain ⟨v, h1, h2⟩ := h.sp
  obtain ⟨es, ck, hm⟩ := h.k.cl.isMap
  refine ⟨hp, hk, h.bs, v, hc.keep h1 (obj_ne h1 hm (by intro e; cases e)), ?_⟩
  refine ⟨h2.1, ?_⟩
  rcases h2.2 with k | ⟨g, cap, cur, rfl, hb, hg, r⟩
  · exact .inl k
  · exact .inr ⟨g, cap, cur, rfl, hb, hc.keep hg (obj_ne hg hm (by intro e; cases e)), r⟩
end

/-- A block that holds one value. -/
def Box (w : World) (g : Nat) (v : Value) (t : TypeId) : Prop := w.heap[g]? = some (.cells #[v] t (0, 0))
theorem Box.cell {w : World} {g : Nat} {v : Value} {t : TypeId} (h : Box w g v t) : w.cell? ⟨g, 0, none⟩ = some v := (cell_of_row _ _ _ _ _ _ h).trans rfl
theorem Box.call {w w' : World} {g : Nat} {v : Value} {t : TypeId} (h : Box w g v t) (hc : Chg w w' No) : Box w' g v t := hc.keep h (fun e => e)
/-- Variables that functions have captured stay. -/
def Stays (w w' : World) : Prop := ∀ k v t, Box w k v t → t = 3 ∨ t = 47 ∨ t = 134 → Box w' k v t
theorem stays_no {w w' : World} (h : Chg w w' No) : Stays w w' := fun _ _ _ hb _ => hb.call h
theorem stays_at {w w' : World} {g : Nat} {A : Array Value} {t : TypeId} {f : Nat × Nat} (hg : w.heap[g]? = some (.cells A t f)) (ht : ¬ (t = 3 ∨ t = 47 ∨ t = 134)) (hc : Chg w w' (· = g)) : Stays w w' := fun k v u hb hu => hc.keep hb (fun e => by
  subst e
  unfold Box at hb
  rw [hg] at hb
  cases hb
  exact ht hu)

theorem TE.stays {w w' : World} {c : LC} {sb : Nat} {s : TS} (h : TE w c sb s) (hc : Chg w w' (Kt c sb w)) : Stays w w' := fun k v t hb ht => by
  refine h.stay hb ?_ ?_ ?_ hc <;> rcases ht with rfl | rfl | rfl <;> decide
/-- A function that keeps pointers or not. -/
structure Keeper (c : LC) (sb : Nat) (X : World → Prop) (fn : Nat) (caps : Array Value) (U : Int) (D : Nat) (F : KeepF) : Prop where
  en : ∀ args w, (callFunc fn args).run Tryz.prog w = .ok (.enter fn args) w
  st : ∀ w w', X w → Stays w w' → X w'
  le : ∀ s i n, (F s i n).2.sp.length ≤ s.sp.length + D
  run : ∀ s i n w, TE w c sb s → X w → 0 ≤ i → i ≤ U → 0 ≤ n → n ≤ 4294967295 → s.sp.length + D ≤ 1000000 →
    Calls Tryz.prog fn (#[.int .i64 i, .int .i64 n] ++ caps) w fun e w' => e = .returned (.bool (F s i n).1) ∧ TE w' c sb (F s i n).2 ∧ Chg w w' (Kt c sb w)

set_option maxRecDepth 100000 in
set_option maxHeartbeats 1000000 in
theorem left_any {c : LC} {sb : Nat} {X : World → Prop} {fn : Nat} {caps : Array Value} {U : Int} {D : Nat} {F : KeepF} (h : Keeper c sb X fn caps U D F) (s : TS) (i n : Int) (w : World) (ht : TE w c sb s) (hx : X w) (h0 : 0 ≤ i) (h1 : i ≤ U) (hn0 : 0 ≤ n) (hn1 : n ≤ 4294967295) (hl : s.sp.length + D ≤ 1000000) :
    Calls Tryz.prog 83 #[.func (.func fn) #[] caps, .int .i64 i, .int .i64 n] w fun e w' => e = .returned (.int .i64 (leftF (F s i n).1 n)) ∧ TE w' c sb (F s i n).2 ∧ Chg w w' (Kt c sb w) := by
  have hR := h.run s i n w ht hx h0 h1 hn0 hn1 hl
  have en := h.en
  generalize F s i n = r at *
  obtain ⟨b, s'⟩ := r
  clear h ht hx
  cases b
  · go_enter Tryz.func83, Tryz.ntmps83
    go_wp2_with (first
      | (go_at_fn fn; go_must (refine hR.mono ?_; rintro e w1 ⟨rfl, hT, hc⟩))
      | fail)
    go_ret
    exact ⟨rfl, hT, hc⟩
  · go_enter Tryz.func83, Tryz.ntmps83
    go_wp2_with (first
      | (go_at_fn fn; go_must (refine hR.mono ?_; rintro e w1 ⟨rfl, hT, hc⟩))
      | fail)
    go_ret
    exact ⟨rfl, hT, hc⟩

end Go.Proofs.YtpmignilhoihnaaGreat
