/-
  puts of the statements' teller.
-/
import Derived.Test.YtgkanfmkohlmcaaGreatT4
namespace Go.Proofs.YtgkanfmkohlmcaaGreat
open Go.RowKit

/-- Numbers that were handed in. -/
def AAt (w : World) (a : Option Addr) (l : List Int) : Prop := l = [] ∨ ∃ b o, a = some ⟨b, o, none⟩ ∧ b < w.heap.size ∧ ∀ k, k < l.length → w.cell? ⟨b, o + k, none⟩ = some (.int .i64 (l.getD k 0))
theorem AAt.call {w w' : World} {a : Option Addr} {l : List Int} (h : AAt w a l) (hc : Chg w w' No) : AAt w' a l := by
  rcases h with h | ⟨b, o, rfl, hb, h⟩
  · exact .inl h
  · exact .inr ⟨b, o, rfl, Nat.lt_of_lt_of_le hb hc.size, fun j hj => cell_keep (h j hj) hc hb (fun e => e)⟩
/-- A step of a script. -/
structure SV where
  kind : Int
  N : Int
  tag : Int
  byte : Int
  af : List Int
structure SV.OK (x : SV) : Prop where
  k : I64 x.kind
  n : I64 x.N
  t : I64 x.tag
  a : ∀ k, k < x.af.length → I64 (x.af.getD k 0)
  l : x.af.length ≤ 9223372036854775807
def SV.cells (x : SV) (a : Option Addr) (ca : Nat) : List Value := [.int .i64 x.kind, .int .i64 x.N, .int .i64 x.tag, .int .i64 x.byte, .slice a x.af.length ca]
def pk (n : Nat) (c : Int) : Int := D.pickN c n
theorem pk_bd {n : Nat} (hn : 8 ≤ n) (c : Int) : 0 ≤ pk n c ∧ pk n c < n := D.pickN_bd c (by omega)
def afL (n : Nat) (x : SV) : List Int := (x.af.take 12).map (pk n)
theorem afL_len (n : Nat) (x : SV) : (afL n x).length ≤ 12 := by simp [afL]; omega
/-- Which orders a Put lays. -/
def newB (s : TSt) (a b : Int) : Bool := decide (b ≠ a) && (s.di.getD b.toNat false && decide (0 < s.last.getD b.toNat 0))
def newO (s : TSt) (a v : Int) (l : List Int) : List (Int × Int × Int × Int) := (l.filter (newB s a)).map fun b => (a, v, b, s.last.getD b.toNat 0)
theorem newO_snoc (s : TSt) (a v : Int) (l : List Int) (b : Int) : newO s a v (l ++ [b]) = if newB s a b = true then newO s a v l ++ [(a, v, b, s.last.getD b.toNat 0)] else newO s a v l := by
  unfold newO
  rw [List.filter_append, List.map_append]
  cases h : newB s a b <;> simp [h]
noncomputable def putsT (n : Nat) (s : TSt) (x : SV) : TSt × Int :=
  if (putC n s.z (pk n x.N) (verL s.nx) (afL n x)).2 = 0 then
    (⟨(putC n s.z (pk n x.N) (verL s.nx) (afL n x)).1, s.last.set (pk n x.N).toNat s.nx, (flags n (putC n s.z (pk n x.N) (verL s.nx) (afL n x)).1).set (pk n x.N).toNat true, s.od ++ newO s (pk n x.N) s.nx (afL n x), s.nx + 1⟩, 0)
  else ({ s with z := (putC n s.z (pk n x.N) (verL s.nx) (afL n x)).1, nx := s.nx + 1 }, (putC n s.z (pk n x.N) (verL s.nx) (afL n x)).2)
/-- A list of flags of one's own. -/
def Bls (w : World) (base : Nat) (v : Value) (l : List Bool) : Prop := w.ownsRow base 4 1 v l.length (l.map Value.bool)
theorem infoBo : ∃ i, Tryz.prog.info? 4 = some i ∧ i.zero = some (.bool false) ∧ i.size = 1 ∧ i.bytes = 1 := by
  have h : (Tryz.prog.info? 4).map (fun i => (i.zero, i.size, i.bytes)) = some (some (.bool false), 1, 1) := by kernel_rfl
  cases hq : Tryz.prog.info? 4 with
  | none => rw [hq] at h; cases h
  | some i =>
    rw [hq] at h
    simp at h
    exact ⟨i, rfl, h.1, h.2.1, h.2.2⟩
section
variable {ops : Array Oper} {rest : List Oper} {o : Oper} {a : Act} {Q : Exit → Act → World → Prop} {w : World}
theorem wp_appB (hg : o.guard = none) (s x : Operand) (hop : o.op = .call { callee := .builtin .append, args := #[s, x], argTypes := #[30, 30] }) (base b n : Nat) (v : Value) (l m : List Bool) (hs : a.eval s = v) (hx : a.eval x = .slice (some ⟨b, 0, none⟩) n n) (hn : m.length = n)
    (hown : Bls w base v l) (hat : w.heap[b]? = some (.cells (BA m) 4 (0, 0))) (hl : l.length + m.length ≤ 1000000000000) (hbase : base ≤ w.heap.size)
    (hK : ∀ v' w', Bls w' base v' (l ++ m) → Chg w w' (fun k => v.ownBlock = some k) → (v'.ownBlock = v.ownBlock ∨ v'.ownBlock = some w.heap.size) → wpList Tryz.prog ops Q rest (a.put o.dst v') w') : wpList Tryz.prog ops Q (o :: rest) a w := by
  obtain ⟨i, hi, hz, hsz, hby⟩ := infoBo
  subst hn
  refine wpList_append_own_at w hg s x 30 hop base 4 i _ 1 1 Tryz.underlying30 hi hz hsz hby rfl (by decide) v l.length (l.map Value.bool) hs hown ⟨b, 0, none⟩ m.length m.length (m.map Value.bool) hx (by simp) (fun j u hj => ?_) (fun u hu => ?_) (by unfold maxLen; omega) (by omega) hbase ?_
  · rw [D.addr_add, Nat.zero_add, cell_of_row _ _ _ _ _ _ hat]
    simpa [BA] using hj
  · rw [List.mem_map] at hu
    obtain ⟨x, _, rfl⟩ := hu
    rfl
  · intro v' w' h1 h2 _ h4
    refine hK v' w' ?_ ((Chg.grown h2).mono fun j _ e => e.symm) h4
    unfold Bls
    rw [List.map_append, List.length_append]
    exact h1
end
theorem Bls.at_ {w : World} {base : Nat} {v : Value} {l : List Bool} (h : Bls w base v l) (hl : 0 < l.length) : ∃ b ca, v = .slice (some ⟨b, 0, none⟩) l.length ca ∧ base ≤ b ∧ b < w.heap.size ∧ ∀ k, k < l.length → w.cell? ⟨b, k, none⟩ = some (.bool (l.getD k false)) := by
  rcases h.2 with ⟨rfl, h0⟩ | ⟨g, cap, cur, rfl, hge, hb, h1, h2, h3, h4⟩
  · omega
  · refine ⟨g, cap, rfl, hge, slt hb, fun k hk => ?_⟩
    rw [cell_of_row _ _ _ _ _ _ hb, ← Array.getElem?_toList]
    have e := congrArg (fun t => t[k]?) h4
    rw [Nat.mul_one] at e
    rw [List.getElem?_take_of_lt hk] at e
    rw [e]
    simp [hk]
theorem build0 (w : World) : (Instr.buildSlice 30 0 #[]).run Tryz.prog w = .ok (.slice (some ⟨w.heap.size, 0, none⟩) 0 0) (w.alloc (.cells #[] 4)) := by kernel_rfl
theorem wp_bs0 {ops : Array Oper} {rest : List Oper} {o : Oper} {a : Act} {Q : Exit → Act → World → Prop} {w : World} (hg : o.guard = none) (hop : o.op = .buildSlice 30 0 #[]) (hK : wpList Tryz.prog ops Q rest (a.put o.dst (.slice (some ⟨w.heap.size, 0, none⟩) 0 0)) (w.alloc (.cells #[] 4))) : wpList Tryz.prog ops Q (o :: rest) a w := by
  refine wpList_plain hg fun K' hK' => ?_
  unfold Oper.wp
  simp [execOp, hop, build0 w, Result.andThen]
  exact hK' _ _ hK
theorem bls_new (w : World) : Bls (w.alloc (.cells #[] 4)) w.heap.size (.slice (some ⟨w.heap.size, 0, none⟩) 0 0) [] :=
  ⟨by simp, .inr ⟨w.heap.size, 0, _, rfl, Nat.le_refl _, heap_alloc_new _ _, Nat.le_refl _, by unfold maxLen; omega, rfl, rfl⟩⟩
theorem afL_take {n : Nat} {x : SV} {k : Nat} (h : k < x.af.length) : (x.af.take (k + 1)).map (pk n) = (x.af.take k).map (pk n) ++ [pk n (x.af.getD k 0)] := by
  rw [take_snoc h, List.map_append]
  rfl
/-- The step lies in memory. -/
def StepB (w : World) (b : Nat) (x : SV) (a : Option Addr) (ca : Nat) : Prop := w.heap[b]? = some (.cells (x.cells a ca).toArray 37 (0, 0))
theorem StepB.c1 {w : World} {b : Nat} {x : SV} {a : Option Addr} {ca : Nat} (h : StepB w b x a ca) : w.cell? ⟨b, 1, none⟩ = some (.int .i64 x.N) := by rw [cell_of_row _ _ _ _ _ _ h]; rfl
theorem StepB.c0 {w : World} {b : Nat} {x : SV} {a : Option Addr} {ca : Nat} (h : StepB w b x a ca) : w.cell? ⟨b, 0, none⟩ = some (.int .i64 x.kind) := by rw [cell_of_row _ _ _ _ _ _ h]; rfl
theorem StepB.c2 {w : World} {b : Nat} {x : SV} {a : Option Addr} {ca : Nat} (h : StepB w b x a ca) : w.cell? ⟨b, 2, none⟩ = some (.int .i64 x.tag) := by rw [cell_of_row _ _ _ _ _ _ h]; rfl
theorem StepB.c4 {w : World} {b : Nat} {x : SV} {a : Option Addr} {ca : Nat} (h : StepB w b x a ca) : w.cell? ⟨b, 4, none⟩ = some (.slice a x.af.length ca) := by rw [cell_of_row _ _ _ _ _ _ h]; rfl

theorem IsT.cache2 {w0 w w' : World} {t c p g n lb db : Nat} {ρ : Nat → Option Role} {ov : Value} {s : TSt} {z' : CSt} (h : IsT w0 w t c p g n lb db ρ ov s) (hP : CPost w w' c p g n ρ z') : ∃ ρ', IsT w0 w' t c p g n lb db ρ' ov { s with z := z' } ∧ ∀ k, Own ρ' k → Own ρ k ∨ w.heap.size ≤ k := by
  obtain ⟨ρ', k1, k2, k3⟩ := hP
  have hs := h.ch.size
  have keep : ∀ k, k < w.heap.size → ¬ Own ρ k → ¬ Own ρ' k := fun k hk hn ho => by
    rcases k2 k ho with e | e
    · exact hn e
    · omega
  refine ⟨ρ', ⟨k3.keep h.me h.nt, k1, k3.keep h.la h.nl, k3.keep h.da h.nd, row_keep h.oa k3 h.no, h.ll, h.dl, keep _ (slt h.me) h.nt, keep _ (slt h.la) h.nl, keep _ (slt h.da) h.nd, fun k hk => keep k (row_ge h.oa hk).2 (h.no k hk), h.bt, h.bl, h.bd, fun k hk => ?_, h.ch.trans k3 (fun _ _ e => e) (fun j hj e => ?_)⟩, k2⟩
  · rcases k2 k hk with e | e
    · exact h.bo k e
    · omega
  · have := h.bo j e
    omega
/-- The flags as they were. -/
def WasAt (w : World) (v : Value) (l : List Bool) : Prop := ∃ b ca, v = .slice (some ⟨b, 0, none⟩) l.length ca ∧ b < w.heap.size ∧ ∀ k, k < l.length → w.cell? ⟨b, k, none⟩ = some (.bool (l.getD k false))

/-- Behind a Put, while orders are laid. -/
structure Laying (w0 w : World) (t c p g n lb db : Nat) (ρ : Nat → Option Role) (ov : Value) (s : TSt) (z1 : CSt) (aa : Int) (l : List Int) (a6 : Option Addr) (b9 k : Nat) : Prop where
  T : IsT w0 w t c p g n lb db ρ ov ⟨z1, s.last, flags n z1, s.od ++ newO s aa s.nx (l.take k), s.nx + 1⟩
  L : LAt w a6 l
  W : ∀ j, j < n → w.cell? ⟨b9, j, none⟩ = some (.bool (s.di.getD j false))
  b : b9 < w.heap.size
  d1 : b9 ≠ t ∧ b9 ≠ lb ∧ b9 ≠ db
  d2 : ∀ g1, a6 = some ⟨g1, 0, none⟩ → g1 ≠ t ∧ g1 ≠ lb ∧ g1 ≠ db
  o1 : ∀ j, ov.ownBlock = some j → j ≠ b9 ∧ ∀ g1, a6 = some ⟨g1, 0, none⟩ → j ≠ g1
  o2 : ∀ j, ρ j ≠ none → j ≠ b9
section
variable {w0 w w' : World} {t c p g n lb db : Nat} {ρ : Nat → Option Role} {ov : Value} {s : TSt} {z1 : CSt} {aa : Int} {l : List Int} {a6 : Option Addr} {b9 k : Nat}
theorem Laying.call (h : Laying w0 w t c p g n lb db ρ ov s z1 aa l a6 b9 k) (hc : Chg w w' No) : Laying w0 w' t c p g n lb db ρ ov s z1 aa l a6 b9 k :=
  ⟨h.T.call hc, h.L.call hc, fun j hj => cell_keep (h.W j hj) hc h.b (fun e => e), Nat.lt_of_lt_of_le h.b hc.size, h.d1, h.d2, h.o1, h.o2⟩
theorem Laying.skip (h : Laying w0 w t c p g n lb db ρ ov s z1 aa l a6 b9 k) (hk : k < l.length) (hb : newB s aa (l.getD k 0) = false) : Laying w0 w t c p g n lb db ρ ov s z1 aa l a6 b9 (k + 1) := by
  have e : newO s aa s.nx (l.take (k + 1)) = newO s aa s.nx (l.take k) := by rw [take_snoc hk, newO_snoc, hb]; rfl
  exact ⟨by rw [e]; exact h.T, h.L, h.W, h.b, h.d1, h.d2, h.o1, h.o2⟩
/-- One order more. -/
theorem Laying.more {w8 : World} {v8 : Value} {N : Nat} (h : Laying w0 w t c p g n lb db ρ ov s z1 aa l a6 b9 k) (hk : k < l.length) (hb : newB s aa (l.getD k 0) = true) (hc : Chg w w8 (fun j => ov.ownBlock = some j))
    (hv : Ords w8 w0.heap.size v8 (s.od ++ newO s aa s.nx (l.take k) ++ [(aa, s.nx, l.getD k 0, s.last.getD (l.getD k 0).toNat 0)])) (ho : v8.ownBlock = ov.ownBlock ∨ v8.ownBlock = some N) (hN : w.heap.size ≤ N) :
    Laying w0 (w8.setCell ⟨t, 4, none⟩ v8) t c p g n lb db ρ v8 s z1 aa l a6 b9 (k + 1) := by
  have e : s.od ++ newO s aa s.nx (l.take (k + 1)) = s.od ++ newO s aa s.nx (l.take k) ++ [(aa, s.nx, l.getD k 0, s.last.getD (l.getD k 0).toNat 0)] := by rw [take_snoc hk, newO_snoc, hb, List.append_assoc]; rfl
  have hs := hc.size
  have hnv : ∀ j, v8.ownBlock = some j → ¬ Own ρ j := fun j hj hoj => by
    rcases ho with e | e
    · exact h.T.no j (by rw [← e]; exact hj) hoj
    · rw [e] at hj
      cases hj
      have := h.T.ca.lt hoj
      omega
  have hT8 : w8.heap[t]? = some (.cells (TC p c lb db n ov (s.nx + 1)) 33 (0, 0)) := hc.keep h.T.me (h.T.nto)
  have hla := hc.keep h.T.la h.T.nlo
  have hda := hc.keep h.T.da h.T.ndo
  have hca := h.T.ca.keep hc (fun j hj e => h.T.no j e hj)
  have hch : Chg w0 w8 No := h.T.ch.trans hc (fun _ _ e => e) (fun j hj e => by have := (row_ge h.T.oa e).1; omega)
  have hcs : Chg w8 (w8.setCell ⟨t, 4, none⟩ v8) (· = t) := Chg.setCell
  have hvt : ∀ j, v8.ownBlock = some j → j ≠ t := fun j hj e => by
    obtain ⟨cur, h2⟩ := row_kind hv hj
    subst e
    exact cells_ne hT8 h2 (by decide) rfl
  refine ⟨?_, ?_, fun j hj => ?_, ?_, h.d1, h.d2, fun j hj => ?_, h.o2⟩
  · rw [e]
    refine ⟨?_, hca.keep hcs (fun j hj e => h.T.nt (by rw [← e]; exact hj)), hcs.keep hla (fun e => h.T.ntl e.symm), hcs.keep hda (fun e => h.T.ntd e.symm), row_keep hv hcs hvt, h.T.ll, h.T.dl, h.T.nt, h.T.nl, h.T.nd, hnv, h.T.bt, h.T.bl, h.T.bd, h.T.bo, hch.trans hcs (fun _ _ e => e) (fun j hj e => by have := h.T.bt; omega)⟩
    rw [heap_setCell_same w8 t 4 _ _ _ hT8]
    rfl
  · refine (h.L.keep hc (fun g1 hg1 e => (h.o1 g1 e).2 g1 hg1 rfl)).keep hcs (fun g1 hg1 e => (h.d2 g1 hg1).1 e)
  · exact cell_keep (cell_keep (h.W j hj) hc h.b (fun e => (h.o1 b9 e).1 rfl)) hcs (by have := h.b; omega) (fun e => h.d1.1 e)
  · have : (w8.setCell ⟨t, 4, none⟩ v8).heap.size = w8.heap.size := by simp [World.setCell]
    have := h.b
    omega
  · rcases ho with e | e
    · rw [e] at hj
      exact h.o1 j hj
    · rw [e] at hj
      cases hj
      refine ⟨by have := h.b; omega, fun g1 hg1 => ?_⟩
      rcases h.L with e2 | ⟨g2, e2, hg2, _⟩
      · rw [e2] at hk; simp at hk
      · rw [e2] at hg1
        cases hg1
        omega
end

variable {w0 w : World} {t c p g n : Nat} {s : TSt}

set_option maxRecDepth 100000 in
set_option maxHeartbeats 8000000 in
theorem puts_x (x : SV) (a : Option Addr) (ca : Nat) {lb db : Nat} {ρ : Nat → Option Role} {ov : Value} (h : IsT w0 w t c p g n lb db ρ ov s) (hn : 8 ≤ n) (hx : x.OK) (ha : AAt w0 a x.af) (hnx : 1 ≤ s.nx ∧ s.nx < 16000000) (ht : TB s.z) (hw : s.z.d.wr < 4611686018427380000) (hod : s.od.length ≤ 100000000000) :
    Calls Tryz.prog 51 #[.pointer (some ⟨t, 0, none⟩), .agg (x.cells a ca).toArray] w fun e w' => e = .returned (.int .i64 (putsT n s x).2) ∧ FT w0 w' t c p g n (putsT n s x).1 := by
  have hn4 : n ≤ 4096 := h.ca.inv.top
  have hc1 : Chg w (w.alloc (.cells (x.cells a ca).toArray 37)) No := Chg.alloc _ _ _
  have hX : StepB (w.alloc (.cells (x.cells a ca).toArray 37)) w.heap.size x a ca := heap_alloc_new _ _
  have h1 := h.call hc1
  have kx1 := hX.c1
  have k2 := h1.c2
  have HBD := hid (pk_bd hn x.N)
  have H1 := hid h1
  have HX := hid hX
  have HAA := hid (fun w' (hc : Chg w0 w' No) => ha.call hc)
  have HOK := hid hx
  have HTW := hid (And.intro ht hw)
  obtain ⟨hnx0, hnx1⟩ := hnx
  clear h1 hX ha hx ht hw
  have hcs : (x.cells a ca).length = 5 := rfl
  have hcl := HOK.out.l
  go_enter Tryz.func51, Tryz.ntmps51
  go_wp2_with fail
  refine wp_region_noPanic ?_
  refine wp_region_held_drew (S := fun w' => w'.cell? ⟨w.heap.size, 1, none⟩ = some (.int .i64 x.N) ∧ w'.cell? ⟨t, 2, none⟩ = some (.slice (some ⟨lb, 0, none⟩) n n)) (by as_aux_lemma => kernel_rfl) ⟨kx1, k2⟩ (fun hHeld => ?_)
  refine takeVal 0 12 (.pointer (some ⟨w.heap.size, 1, none⟩)) rfl (by as_aux_lemma => kernel_rfl) (by as_aux_lemma => kernel_rfl) (by as_aux_lemma => kernel_rfl) rfl (by rfl) (fun _ _ _ h => h) hHeld (fun _ hw' => by go_simp) ?_
  simp only [List.setIfInBounds_toArray, List.set_cons_zero, List.set_cons_succ]
  refine takeVal 1 13 (.int .i64 x.N) rfl (by as_aux_lemma => kernel_rfl) (by as_aux_lemma => kernel_rfl) (by as_aux_lemma => kernel_rfl) rfl (by rfl) (fun _ _ _ h => h) hHeld (fun _ hw' => by have hq' := hw'.1; go_simp) ?_
  simp only [List.setIfInBounds_toArray, List.set_cons_zero, List.set_cons_succ]
  refine takeVal 2 14 (.pointer (some ⟨t, 0, none⟩)) rfl (by as_aux_lemma => kernel_rfl) (by as_aux_lemma => kernel_rfl) (by as_aux_lemma => kernel_rfl) rfl (by rfl) (fun _ _ _ h => h) hHeld (fun _ hw' => rfl) ?_
  simp only [List.setIfInBounds_toArray, List.set_cons_zero, List.set_cons_succ]
  refine takeVal 3 15 (.pointer (some ⟨t, 0, none⟩)) rfl (by as_aux_lemma => kernel_rfl) (by as_aux_lemma => kernel_rfl) (by as_aux_lemma => kernel_rfl) rfl (by rfl) (fun _ _ _ h => h) hHeld (fun _ hw' => by go_simp) ?_
  simp only [List.setIfInBounds_toArray, List.set_cons_zero, List.set_cons_succ]
  refine takeVal 4 16 (.pointer (some ⟨t, 2, none⟩)) rfl (by as_aux_lemma => kernel_rfl) (by as_aux_lemma => kernel_rfl) (by as_aux_lemma => kernel_rfl) rfl (by rfl) (fun _ _ _ h => h) hHeld (fun _ hw' => by go_simp) ?_
  simp only [List.setIfInBounds_toArray, List.set_cons_zero, List.set_cons_succ]
  refine takeVal 5 17 (.slice (some ⟨lb, 0, none⟩) n n) rfl (by as_aux_lemma => kernel_rfl) (by as_aux_lemma => kernel_rfl) (by as_aux_lemma => kernel_rfl) rfl (by rfl) (fun _ _ _ h => h) hHeld (fun _ hw' => by have hq' := hw'.2; go_simp) ?_
  simp only [List.setIfInBounds_toArray, List.set_cons_zero, List.set_cons_succ]
  refine takeVal 6 18 (.int .i64 n) rfl (by as_aux_lemma => kernel_rfl) (by as_aux_lemma => kernel_rfl) (by as_aux_lemma => kernel_rfl) rfl (by rfl) (fun _ _ _ h => h) hHeld (fun _ hw' => by go_simp) ?_
  simp only [List.setIfInBounds_toArray, List.set_cons_zero, List.set_cons_succ]
  refine step1 7 (by as_aux_lemma => kernel_rfl) ?_
  refine stCall 7 19 8 #[.int .i64 x.N, .int .i64 n] _ rfl rfl (by rfl) (by go_simp) ((D.pick_any x.N n _ HOK.out.n (by omega) (by omega))) ?_
  rintro e wp ⟨rfl, ewp⟩
  subst ewp
  refine ⟨_, rfl, hHeld, ?_⟩
  simp only [List.setIfInBounds_toArray, List.set_cons_zero, List.set_cons_succ]
  refine takeVal 8 5 (.int .i64 (pk n x.N)) rfl (by as_aux_lemma => kernel_rfl) (by as_aux_lemma => kernel_rfl) (by as_aux_lemma => kernel_rfl) rfl (by rfl) (fun _ _ _ h => h) hHeld (fun _ hw' => rfl) ?_
  simp only [List.setIfInBounds_toArray, List.set_cons_zero, List.set_cons_succ]
  refine wpAnyH_done (by as_aux_lemma => kernel_rfl) ?_ _
  refine NoPanic.normal ?_

  generalize hw1 : (w.alloc (.cells (x.cells a ca).toArray 37)).drew = w1 at *
  have hc01 : Chg (w.alloc (.cells (x.cells a ca).toArray 37)) w1 No := by rw [← hw1]; exact (Chg.refl _ _).drew
  have HT1 := hid (H1.out.call hc01)
  have HX1 := hid (hc01.keep HX.out (fun e => e))
  have hx1s := slt HX1.out
  clear hHeld kx1 k2 hc01 hw1
  generalize haa : pk n x.N = aa at *
  have HAAE := hid haa
  clear haa
  generalize hml : x.af.length = m at *
  have HML := hid hml
  generalize hB : w1.heap.size = B at *
  have HBe := hid hB
  go_wp2_with fail
  go_loopw [6, 7] (fun v i wr => ∃ (k : Nat) (wq : World), wq = wr ∧ k ≤ m ∧ k ≤ 12 ∧ i = .int .i64 k ∧ Ints wq B v ((x.af.take k).map (pk n)) ∧ Chg w1 wq No) (fun _ i _ => 12 - (intOf i).toNat)
  case atStart => exact ⟨0, w1, rfl, by omega, by omega, rfl, World.ownsRow_nil _ _ _ _, Chg.refl _ _⟩
  case round =>
    obtain ⟨k, wA, rfl, hkm, hk12, rfl, hv, hcA⟩ := hrel
    have hszA := hcA.size
    have hTA := HT1.out.call hcA
    have hXA : StepB wA w.heap.size x a ca := hcA.keep HX1.out (fun e => e)
    have kx4 := hXA.c4
    rw [HML.out] at kx4
    by_cases hgo : k < m ∧ k < 12
    · obtain ⟨hlt, hlt12⟩ := hgo
      rcases HAA.out wA hTA.ch with h0 | ⟨b, o, rfl, hb, hcell⟩
      · have := HML.out; rw [h0] at this; simp at this; omega
      have p1 := hcell k (by rw [HML.out]; exact hlt)
      have hIY := HOK.out.a k (by rw [HML.out]; exact hlt)
      have htk := afL_take (n := n) (x := x) (k := k) (by rw [HML.out]; exact hlt)
      generalize hy : x.af.getD k 0 = y at *
      have HIY := hid hIY
      have hi0 : (0 : Int) ≤ (k : Int) := by omega
      have hi1 : (k : Int) < (m : Int) := by omega
      have hi2 : (k : Int) < 12 := by omega
      have HSS : Hid (∀ w', Chg w1 w' No → w'.cell? ⟨w.heap.size, 4, none⟩ = some (.slice (some ⟨b, o, none⟩) m ca) ∧ w'.cell? ⟨b, o + k, none⟩ = some (.int .i64 y) ∧ w'.cell? ⟨t, 2, none⟩ = some (.slice (some ⟨lb, 0, none⟩) n n)) := fun w' hc => by
        refine ⟨?_, ?_, (HT1.out.call hc).c2⟩
        · have := StepB.c4 (show StepB w' w.heap.size x (some ⟨b, o, none⟩) ca from hc.keep HX1.out (fun e => e))
          rw [HML.out] at this
          exact this
        · rcases HAA.out w' (HT1.out.ch.tr hc) with h0 | ⟨b', o', e, _, hc'⟩
          · have := HML.out; rw [h0] at this; simp at this; omega
          · cases e
            rw [← hy]
            exact hc' k (by rw [HML.out]; exact hlt)
      have HS1 := hid (HSS.out wA hcA)
      have hcD : Chg wA (wA.drew.alloc (.cells #[.int .i64 (pk n y)] 3)) No := (Chg.refl wA No).drew.tr (Chg.alloc _ _ _)
      have HS2 := hid (HSS.out _ (hcA.tr hcD))
      have HV2 := hid (row_keep hv hcD (fun _ _ e => e))
      have HL2 := hid (lat_one wA.drew (pk n y))
      have HCA := hid hcA
      have HTK := hid htk
      have hfl : ((x.af.take k).map (pk n)).length ≤ 12 := by simp; omega
      clear hv hcA hTA hXA p1 hcell hIY htk hy hcD
      go_wp2_with fail
      clear kx4
      refine wp_region_noPanic ?_
      refine wp_region_held_drew (S := fun w' => w'.cell? ⟨w.heap.size, 4, none⟩ = some (.slice (some ⟨b, o, none⟩) m ca) ∧ w'.cell? ⟨b, o + k, none⟩ = some (.int .i64 y) ∧ w'.cell? ⟨t, 2, none⟩ = some (.slice (some ⟨lb, 0, none⟩) n n)) (by as_aux_lemma => kernel_rfl) HS1.out (fun hHeld => ?_)
      refine takeVal 0 31 (u6) rfl (by as_aux_lemma => kernel_rfl) (by as_aux_lemma => kernel_rfl) (by as_aux_lemma => kernel_rfl) rfl (by rfl) (fun _ _ _ h => h) hHeld (fun _ hw' => rfl) ?_
      simp only [List.setIfInBounds_toArray, List.set_cons_zero, List.set_cons_succ]
      refine takeVal 1 32 (.pointer (some ⟨w.heap.size, 4, none⟩)) rfl (by as_aux_lemma => kernel_rfl) (by as_aux_lemma => kernel_rfl) (by as_aux_lemma => kernel_rfl) rfl (by rfl) (fun _ _ _ h => h) hHeld (fun _ hw' => by go_simp) ?_
      simp only [List.setIfInBounds_toArray, List.set_cons_zero, List.set_cons_succ]
      refine takeVal 2 33 (.slice (some ⟨b, o, none⟩) m ca) rfl (by as_aux_lemma => kernel_rfl) (by as_aux_lemma => kernel_rfl) (by as_aux_lemma => kernel_rfl) rfl (by rfl) (fun _ _ _ h => h) hHeld (fun _ hw' => by have hq' := hw'.1; go_simp) ?_
      simp only [List.setIfInBounds_toArray, List.set_cons_zero, List.set_cons_succ]
      refine takeVal 3 34 (.int .i64 (k : Int)) rfl (by as_aux_lemma => kernel_rfl) (by as_aux_lemma => kernel_rfl) (by as_aux_lemma => kernel_rfl) rfl (by rfl) (fun _ _ _ h => h) hHeld (fun _ hw' => rfl) ?_
      simp only [List.setIfInBounds_toArray, List.set_cons_zero, List.set_cons_succ]
      refine takeVal 4 35 (.pointer (some ⟨b, o + k, none⟩)) rfl (by as_aux_lemma => kernel_rfl) (by as_aux_lemma => kernel_rfl) (by as_aux_lemma => kernel_rfl) rfl (by rfl) (fun _ _ _ h => h) hHeld (fun _ hw' => by go_simp) ?_
      simp only [List.setIfInBounds_toArray, List.set_cons_zero, List.set_cons_succ]
      refine takeVal 5 36 (.int .i64 y) rfl (by as_aux_lemma => kernel_rfl) (by as_aux_lemma => kernel_rfl) (by as_aux_lemma => kernel_rfl) rfl (by rfl) (fun _ _ _ h => h) hHeld (fun _ hw' => by have hq' := hw'.2.1; go_simp) ?_
      simp only [List.setIfInBounds_toArray, List.set_cons_zero, List.set_cons_succ]
      refine takeVal 6 37 (.pointer (some ⟨t, 0, none⟩)) rfl (by as_aux_lemma => kernel_rfl) (by as_aux_lemma => kernel_rfl) (by as_aux_lemma => kernel_rfl) rfl (by rfl) (fun _ _ _ h => h) hHeld (fun _ hw' => rfl) ?_
      simp only [List.setIfInBounds_toArray, List.set_cons_zero, List.set_cons_succ]
      refine takeVal 7 38 (.pointer (some ⟨t, 0, none⟩)) rfl (by as_aux_lemma => kernel_rfl) (by as_aux_lemma => kernel_rfl) (by as_aux_lemma => kernel_rfl) rfl (by rfl) (fun _ _ _ h => h) hHeld (fun _ hw' => by go_simp) ?_
      simp only [List.setIfInBounds_toArray, List.set_cons_zero, List.set_cons_succ]
      refine takeVal 8 39 (.pointer (some ⟨t, 2, none⟩)) rfl (by as_aux_lemma => kernel_rfl) (by as_aux_lemma => kernel_rfl) (by as_aux_lemma => kernel_rfl) rfl (by rfl) (fun _ _ _ h => h) hHeld (fun _ hw' => by go_simp) ?_
      simp only [List.setIfInBounds_toArray, List.set_cons_zero, List.set_cons_succ]
      refine takeVal 9 40 (.slice (some ⟨lb, 0, none⟩) n n) rfl (by as_aux_lemma => kernel_rfl) (by as_aux_lemma => kernel_rfl) (by as_aux_lemma => kernel_rfl) rfl (by rfl) (fun _ _ _ h => h) hHeld (fun _ hw' => by have hq' := hw'.2.2; go_simp) ?_
      simp only [List.setIfInBounds_toArray, List.set_cons_zero, List.set_cons_succ]
      refine takeVal 10 41 (.int .i64 n) rfl (by as_aux_lemma => kernel_rfl) (by as_aux_lemma => kernel_rfl) (by as_aux_lemma => kernel_rfl) rfl (by rfl) (fun _ _ _ h => h) hHeld (fun _ hw' => by go_simp) ?_
      simp only [List.setIfInBounds_toArray, List.set_cons_zero, List.set_cons_succ]
      refine step1 11 (by as_aux_lemma => kernel_rfl) ?_
      refine stCall 11 42 8 #[.int .i64 y, .int .i64 n] _ rfl rfl (by rfl) (by go_simp) ((D.pick_any y n _ HIY.out (by omega) (by omega))) ?_
      rintro e wp ⟨rfl, ewp⟩
      subst ewp
      refine ⟨_, rfl, hHeld, ?_⟩
      simp only [List.setIfInBounds_toArray, List.set_cons_zero, List.set_cons_succ]
      refine step1 12 (by as_aux_lemma => kernel_rfl) ?_
      refine stNew 12 43 (.slice (some ⟨wA.heap.size, 0, none⟩) 1 1) (.cells #[.int .i64 (pk n y)] 3) rfl rfl (by rfl) (by go_simp; first | done | rfl) ?_
      have hHeld := HS2.out
      refine ⟨hHeld, ?_⟩
      simp only [List.setIfInBounds_toArray, List.set_cons_zero, List.set_cons_succ]
      refine step1 13 (by as_aux_lemma => kernel_rfl) ?_
      refine stAppL 13 44 rfl rfl (by rfl) _ _ rfl B u6 ((x.af.take k).map (pk n)) [pk n y] (some ⟨wA.heap.size, 0, none⟩) 1 rfl rfl HV2.out HL2.out (fun e => by cases e) (by simp; omega) (by simp; omega) ?_
      intro v5 w5 h51 h52 h53
      have hcA5 : Chg wA w5 (fun j => B ≤ j) := ((Chg.refl wA No).drew.trans (Chg.alloc wA.drew (.cells #[.int .i64 (pk n y)] 3) No) (c := No) (fun _ _ e => e) (fun _ _ e => e)).trans h52 (fun _ _ e => e.elim) (fun j _ e => (row_ge HV2.out e).1)
      have hc5 : Chg w1 w5 No := HCA.out.trans hcA5 (fun _ _ e => e) (fun j hj e => by omega)
      have hHeld := HSS.out w5 hc5
      refine ⟨hHeld, ?_⟩
      simp only [List.setIfInBounds_toArray, List.set_cons_zero, List.set_cons_succ]
      refine takeVal 14 6 (v5) rfl (by as_aux_lemma => kernel_rfl) (by as_aux_lemma => kernel_rfl) (by as_aux_lemma => kernel_rfl) rfl (by rfl) (fun _ _ _ h => h) hHeld (fun _ hw' => rfl) ?_
      simp only [List.setIfInBounds_toArray, List.set_cons_zero, List.set_cons_succ]
      refine wpAnyH_done (by as_aux_lemma => kernel_rfl) ?_ _
      refine NoPanic.normal ?_

      go_wp2_with fail
      refine ⟨⟨k + 1, w5, rfl, by omega, by omega, by go_num, ?_, hc5⟩, by simp [intOf]; omega⟩
      rw [HTK.out]
      exact h51
    · have hAF : (x.af.take k).map (pk n) = afL n x := by
        unfold afL
        by_cases hlt : k < m
        · rw [show k = 12 by omega]
        · rw [List.take_of_length_le (by rw [HML.out]; omega), List.take_of_length_le (by rw [HML.out]; omega)]
      rw [hAF] at hv
      clear hAF
      obtain ⟨a6, c6, e6, hlat6, hge6⟩ := hv.lat
      subst e6
      have hnil := hv.nilcap
      have hcc : (¬ (k : Int) < (m : Int)) ∨ ((k : Int) < (m : Int) ∧ ¬ (k : Int) < 12) := by omega
      have hTlt := HT1.out.ca
      have k5 := hTA.c5
      have f5 := hTA.fz 5
      have hN := hTA.next (s.nx + 1)
      have hdaN := hN.da
      have HTB := hid (And.intro (slt HT1.out.me) (And.intro (slt HT1.out.da) (slt HT1.out.la)))
      have hownB : ∀ j, Own ρ j → j < B := fun j hj => by have := hTlt.lt hj; have := HBe.out; omega
      have HOWN := hid hownB
      have HN := hid hN
      have HL6 := hid (show LAt (wA.setCell ⟨t, 5, none⟩ (.int .i64 (s.nx + 1))) a6 (afL n x) from hlat6.keep Chg.setCell (fun g1 hg1 e => by have := hge6 g1 hg1; have := HTB.out.1; have := HBe.out; omega))
      have HG6 := hid (show ∀ g1, a6 = some ⟨g1, 0, none⟩ → B ≤ g1 ∧ g1 < wA.heap.size from fun g1 e => ⟨hge6 g1 e, (row_ge hv (hnil.2 _ e).2).2⟩)
      have HNIL := hid hnil.1
      have HDL := hid HT1.out.dl
      have HB0 := hid (bls_new (wA.setCell ⟨t, 5, none⟩ (.int .i64 (s.nx + 1))))
      have HDA := hid ((Chg.alloc (wA.setCell ⟨t, 5, none⟩ (.int .i64 (s.nx + 1))) (.cells #[] 4) No).keep hdaN (fun e => e))
      have hszN : (wA.setCell ⟨t, 5, none⟩ (.int .i64 (s.nx + 1))).heap.size = wA.heap.size := by simp [World.setCell]
      have HSZN := hid hszN
      have HAFL := hid (afL_len n x)
      have HAFB : Hid (∀ j, j < (afL n x).length → 0 ≤ (afL n x).getD j 0 ∧ (afL n x).getD j 0 < n) := fun j hj => by
        have hm1 := getD_mem hj
        unfold afL at hm1
        obtain ⟨y, _, e⟩ := List.mem_map.1 hm1
        show 0 ≤ (afL n x).getD j 0 ∧ _
        unfold afL
        rw [← e]
        exact pk_bd hn y
      obtain ⟨⟨z1, e1⟩, hr⟩ : ∃ r, putC n s.z aa (verL s.nx) (afL n x) = r := ⟨_, rfl⟩
      have HRR := hid hr
      have hIaa : I64 aa := by have := HBD.out; exact ⟨by omega, by omega⟩
      have HPUT : Hid (∀ wv, IsC wv c p g n ρ s.z → LAt wv a6 (afL n x) → wA.heap.size ≤ wv.heap.size → Calls Tryz.prog 17 #[.pointer (some ⟨c, 0, none⟩), .int .i64 aa, .agg (D.SA (verL s.nx)), .slice a6 (afL n x).length c6] wv fun e w' => e = .returned (.int .i64 e1) ∧ CPost wv w' c p g n ρ z1) := fun wv hCv hLv hsv => by
        have := put_any aa (verL s.nx) (afL n x) a6 c6 hCv (verL_len _) hIaa hLv HNIL.out (fun g1 e => by have h1 := HG6.out g1 e; exact ⟨by omega, fun ho => by have := HOWN.out g1 ho; omega⟩) (by have := HAFL.out; omega) (fun j hj => by have := HAFB.out j hj; exact ⟨by omega, by omega⟩) HTW.out.1 HTW.out.2
        rw [HRR.out] at this
        exact this
      have HPT : Hid (putsT n s x = if e1 = 0 then (⟨z1, s.last.set aa.toNat s.nx, (flags n z1).set aa.toNat true, s.od ++ newO s aa s.nx (afL n x), s.nx + 1⟩, 0) else ({ s with z := z1, nx := s.nx + 1 }, e1)) := by
        show _ = _
        unfold putsT
        rw [HAAE.out, HRR.out]
      clear hv hlat6 hge6 hnil hTA hXA hTlt hN hdaN hownB hr hszN hcA
      rcases hcc with hi1 | ⟨hi1, hi2⟩
      all_goals
        go_upto_region 9 with fail
        generalize hwN : wA.setCell ⟨t, 5, none⟩ (.int .i64 (s.nx + 1)) = wN at *
        have kN3 := (HN.out.call (Chg.alloc wN (.cells #[] 4) No)).c3
        clear hwN k5 f5
        go_wp2_with (first
          | (refine wp_bs0 rfl rfl ?_)
          | (at_builtin; go_must (refine wp_appB rfl _ _ rfl wN.heap.size db n (.slice (some ⟨wN.heap.size, 0, none⟩) 0 0) [] s.di rfl rfl HDL.out HB0.out HDA.out (by have := HDL.out; simp only [List.length_nil]; omega) (by simp only [World.size_alloc]; omega) ?_; intro v9 w9 h91 h92 h93; have HC9 := hid ((Chg.alloc wN (.cells #[] 4) No).trans h92 (c := No) (fun _ _ e => e) (fun j hj e => by have e : some wN.heap.size = some j := e; simp at e; omega)); have H91 := hid h91; clear h91 h92 h93))
          | fail)
        have HT9 := hid (HN.out.call HC9.out)
        have HL9 := hid (HL6.out.call HC9.out)
        have hsz9 : wA.heap.size ≤ w9.heap.size := by have := HC9.out.size; have := HSZN.out; omega
        have HSZ9 := hid hsz9
        clear kN3 hsz9
        refine wp_region_noPanic ?_
        refine wp_region_held_drew (S := fun w' => w'.cell? ⟨t, 1, none⟩ = some (.pointer (some ⟨c, 0, none⟩))) (by as_aux_lemma => kernel_rfl) HT9.out.c1 (fun hHeld => ?_)
        refine takeVal 0 63 (.pointer (some ⟨t, 0, none⟩)) rfl (by as_aux_lemma => kernel_rfl) (by as_aux_lemma => kernel_rfl) (by as_aux_lemma => kernel_rfl) rfl (by rfl) (fun _ _ _ h => h) hHeld (fun _ hw' => rfl) ?_
        simp only [List.setIfInBounds_toArray, List.set_cons_zero, List.set_cons_succ]
        refine takeVal 1 64 (.pointer (some ⟨t, 0, none⟩)) rfl (by as_aux_lemma => kernel_rfl) (by as_aux_lemma => kernel_rfl) (by as_aux_lemma => kernel_rfl) rfl (by rfl) (fun _ _ _ h => h) hHeld (fun _ hw' => by go_simp) ?_
        simp only [List.setIfInBounds_toArray, List.set_cons_zero, List.set_cons_succ]
        refine takeVal 2 65 (.pointer (some ⟨t, 1, none⟩)) rfl (by as_aux_lemma => kernel_rfl) (by as_aux_lemma => kernel_rfl) (by as_aux_lemma => kernel_rfl) rfl (by rfl) (fun _ _ _ h => h) hHeld (fun _ hw' => by go_simp) ?_
        simp only [List.setIfInBounds_toArray, List.set_cons_zero, List.set_cons_succ]
        refine takeVal 3 66 (.pointer (some ⟨c, 0, none⟩)) rfl (by as_aux_lemma => kernel_rfl) (by as_aux_lemma => kernel_rfl) (by as_aux_lemma => kernel_rfl) rfl (by rfl) (fun _ _ _ h => h) hHeld (fun _ hw' => by have hq' := hw'; go_simp) ?_
        simp only [List.setIfInBounds_toArray, List.set_cons_zero, List.set_cons_succ]
        refine takeVal 4 67 (.int .i64 aa) rfl (by as_aux_lemma => kernel_rfl) (by as_aux_lemma => kernel_rfl) (by as_aux_lemma => kernel_rfl) rfl (by rfl) (fun _ _ _ h => h) hHeld (fun _ hw' => rfl) ?_
        simp only [List.setIfInBounds_toArray, List.set_cons_zero, List.set_cons_succ]
        refine takeVal 5 68 (.int .i64 s.nx) rfl (by as_aux_lemma => kernel_rfl) (by as_aux_lemma => kernel_rfl) (by as_aux_lemma => kernel_rfl) rfl (by rfl) (fun _ _ _ h => h) hHeld (fun _ hw' => rfl) ?_
        simp only [List.setIfInBounds_toArray, List.set_cons_zero, List.set_cons_succ]
        refine takeVal 7 70 (.slice a6 (afL n x).length c6) rfl (by as_aux_lemma => kernel_rfl) (by as_aux_lemma => kernel_rfl) (by as_aux_lemma => kernel_rfl) rfl (by rfl) (fun _ _ _ h => h) hHeld (fun _ hw' => rfl) ?_
        simp only [List.setIfInBounds_toArray, List.set_cons_zero, List.set_cons_succ]
        refine step1 6 (by as_aux_lemma => kernel_rfl) ?_
        refine stCall 6 69 22 #[.int .i64 s.nx] _ rfl rfl (by rfl) (by go_simp) ((versioned_any s.nx (by omega) (by omega) _)) ?_
        rintro e wv ⟨rfl, hcv⟩
        have hTv := (HT9.out.call (Chg.refl w9 No).drew).call hcv
        have hLv := (HL9.out.call (Chg.refl w9 No).drew).call hcv
        have hHeld : wv.cell? ⟨t, 1, none⟩ = some (.pointer (some ⟨c, 0, none⟩)) := hTv.c1
        refine ⟨_, rfl, hHeld, ?_⟩
        simp only [List.setIfInBounds_toArray, List.set_cons_zero, List.set_cons_succ]
        refine step1 8 (by as_aux_lemma => kernel_rfl) ?_
        refine stCall 8 71 17 #[.pointer (some ⟨c, 0, none⟩), .int .i64 aa, .agg (D.SA (verL s.nx)), .slice a6 (afL n x).length c6] _ rfl rfl (by rfl) (by go_simp) ((HPUT.out wv hTv.ca hLv (by have h1 := hcv.size; have h2 : w9.heap.size ≤ wv.heap.size := h1; have := HSZ9.out; omega))) ?_
        rintro e wx ⟨rfl, hPx⟩
        have hgx : Chg wv wx (Own ρ) := (by obtain ⟨_, _, _, hq⟩ := hPx; exact hq)
        obtain ⟨ρx, hTx, hox⟩ := hTv.cache2 hPx
        have hHeld : wx.cell? ⟨t, 1, none⟩ = some (.pointer (some ⟨c, 0, none⟩)) := hTx.c1
        refine ⟨_, rfl, hHeld, ?_⟩
        simp only [List.setIfInBounds_toArray, List.set_cons_zero, List.set_cons_succ]
        refine takeVal 9 10 (.int .i64 e1) rfl (by as_aux_lemma => kernel_rfl) (by as_aux_lemma => kernel_rfl) (by as_aux_lemma => kernel_rfl) rfl (by rfl) (fun _ _ _ h => h) hHeld (fun _ hw' => rfl) ?_
        simp only [List.setIfInBounds_toArray, List.set_cons_zero, List.set_cons_succ]
        refine wpAnyH_done (by as_aux_lemma => kernel_rfl) ?_ _
        refine NoPanic.normal ?_
        by_cases he1 : e1 = 0
        · have HEI := hid hTx
          subst he1
          obtain ⟨b9, ca9, e9, hge9, hlt9, hcell9⟩ := H91.out.at_ (by rw [List.nil_append, HDL.out]; omega)
          rw [List.nil_append, HDL.out] at e9 hcell9
          subst e9
          have HLAY : Hid (∀ wL, IsT w0 wL t c p g n lb db ρx ov ⟨z1, s.last, flags n z1, s.od, s.nx + 1⟩ → Chg wx wL (· = db) → Laying w0 wL t c p g n lb db ρx ov s z1 aa (afL n x) a6 b9 0) := fun wL hTL hcL => by
            have s1 := HSZN.out
            have s2 : w9.heap.size ≤ wv.heap.size := hcv.size
            have s3 := hgx.size
            have s4 := hcL.size
            have hov : ∀ j, ov.ownBlock = some j → j < B := fun j hj => by have := (row_ge HT1.out.oa hj).2; have := HBe.out; omega
            have hBA : B ≤ wA.heap.size := by have := hszA; have := HBe.out; omega
            have e0 := HTB.out
            have eB := HBe.out
            refine ⟨?_, ?_, fun j hj => ?_, by omega, ⟨by omega, by omega, by omega⟩, fun g1 hg1 => ?_, fun j hj => ⟨?_, fun g1 hg1 => ?_⟩, fun j hj => ?_⟩
            · have : s.od ++ newO s aa s.nx ((afL n x).take 0) = s.od := by simp [newO]
              rw [this]
              exact hTL
            · exact (hLv.keep hgx (fun g1 hg1 ho => by have := HG6.out g1 hg1; have := HOWN.out g1 ho; omega)).keep hcL (fun g1 hg1 e => by have := HG6.out g1 hg1; omega)
            · have h1 := cell_keep (cell_keep (hcell9 j hj) ((Chg.refl w9 No).drew.tr hcv) hlt9 (fun e => e)) hgx (by omega) (fun ho => by have := HOWN.out b9 ho; omega)
              exact cell_keep h1 hcL (by omega) (fun e => by omega)
            · have := HG6.out g1 hg1
              exact ⟨by omega, by omega, by omega⟩
            · have := hov j hj
              omega
            · have := hov j hj
              have := HG6.out g1 hg1
              omega
            · rcases hox j (Option.ne_none_iff_exists'.1 hj) with e | e
              · have := HOWN.out j e
                omega
              · omega
          have HLE := learns_t hTx
          clear hTx hTv hLv hPx hHeld hgx hox hcell9 hge9 hlt9 HEI HPUT HRR
          generalize hL2 : afL n x = L2 at *
          generalize hm2 : L2.length = m2 at *
          have HM2 := hid hm2
          clear hL2 hm2
          go_wp2_with (first
            | (go_at_call 55; go_must (refine HLE.mono ?_; rintro e wL ⟨rfl, hTL, hcL⟩; have HLL := hid (HLAY.out wL hTL hcL); clear HLE HLAY hTL hcL))
            | fail)
          go_loopw [11] (fun i wr => ∃ (k : Nat) (ov2 : Value) (wQ : World), wQ = wr ∧ k ≤ m2 ∧ i = .int .i64 k ∧ Laying w0 wQ t c p g n lb db ρx ov2 s z1 aa L2 a6 b9 k) (fun i _ => m2 - (intOf i).toNat)
          case atStart => exact ⟨0, ov, wL, rfl, by omega, rfl, HLL.out⟩
          case round =>
            obtain ⟨k, ov2, wQ, rfl, hkm, rfl, hLa⟩ := hrel
            clear HLL
            have hm12 : m2 ≤ 12 := HAFL.out
            by_cases hlt : k < m2
            · rcases hLa.L with h0 | ⟨g1, rfl, hg1, hcell⟩
              · have := HM2.out; rw [h0] at this; simp at this; omega
              have p1 := hcell k (by rw [HM2.out]; exact hlt)
              have hb2 := HAFB.out k hlt
              have pW := hLa.W (L2.getD k 0).toNat (by omega)
              have pl := hLa.T.lc (k := (L2.getD k 0).toNat) (by omega)
              simp only at pl
              have k2 := hLa.T.c2
              have hklt : k < L2.length := by rw [HM2.out]; exact hlt
              have HSK := hid (fun hf : newB s aa (L2.getD k 0) = false => hLa.skip hklt hf)
              have HLA := hid hLa
              have HGC := hid hcell
              have HNB : Hid (newB s aa (L2.getD k 0) = (decide (L2.getD k 0 ≠ aa) && (s.di.getD (L2.getD k 0).toNat false && decide (0 < s.last.getD (L2.getD k 0).toNat 0)))) := rfl
              clear hLa hcell
              obtain ⟨b2, hb2e⟩ : ∃ b2, L2.getD k 0 = b2 := ⟨_, rfl⟩
              rw [hb2e] at p1 hb2 pW pl HSK HNB
              have HB2 := hid hb2e
              obtain ⟨lv, hlve⟩ : ∃ lv, s.last.getD b2.toNat 0 = lv := ⟨_, rfl⟩
              rw [hlve] at pl HNB
              have HLV := hid hlve
              obtain ⟨fb, hfbe⟩ : ∃ fb, s.di.getD b2.toNat false = fb := ⟨_, rfl⟩
              rw [hfbe] at pW HNB
              clear hb2e hlve hfbe
              obtain ⟨hb20, hb21⟩ := hb2
              have HLT := hid hlt
              have hd1 : decide (0 ≤ b2) = true := by simpa using hb20
              have hi0 : (0 : Int) ≤ (k : Int) := by omega
              have hi1 : (k : Int) < (m2 : Int) := by omega
              by_cases hq1 : b2 = aa
              · have hb0 : (b2 != aa) = false := by simp [hq1]
                have HF := hid (HSK.out (by rw [HNB.out]; simp [hq1]))
                clear hq1 HSK HNB HLA HGC
                go_wp2_with fail
                go_quiet (fail)
                go_wp2_with fail
                exact ⟨⟨k + 1, ov2, _, rfl, HLT.out, by go_num, HF.out.call (chg_drewN _ _)⟩, by have := HLT.out; simp [intOf]; omega⟩
              have hb0 : (b2 != aa) = true := by simp [hq1]
              cases fb with
              | false =>
                have HF := hid (HSK.out (by rw [HNB.out]; simp))
                clear hq1 HSK HNB HLA HGC
                go_wp2_with fail
                go_quiet (fail)
                go_wp2_with fail
                exact ⟨⟨k + 1, ov2, _, rfl, HLT.out, by go_num, HF.out.call (chg_drewN _ _)⟩, by have := HLT.out; simp [intOf]; omega⟩
              | true =>
              by_cases hq2 : 0 < lv
              rotate_left
              · have hb3 : decide (0 < lv) = false := by simpa using hq2
                have HF := hid (HSK.out (by rw [HNB.out]; simp [hq2]))
                clear hq1 HSK HNB HLA HGC
                go_wp2_with fail
                go_quiet (fail)
                go_wp2_with fail
                exact ⟨⟨k + 1, ov2, _, rfl, HLT.out, by go_num, HF.out.call (chg_drewN _ _)⟩, by have := HLT.out; simp [intOf]; omega⟩
              · have hb3 : decide (0 < lv) = true := by simpa using hq2
                have HNT : Hid (newB s aa b2 = true) := by show _ = _; rw [HNB.out]; simp [hq1, hq2]
                clear hq1 HSK HNB
                go_wp2_with fail
                go_quiet (fail)
                go_wp2_with fail
                generalize hwD : wQ.drewN _ = wD
                have hLD : Laying w0 wD t c p g n lb db ρx ov2 s z1 aa L2 (some ⟨g1, 0, none⟩) b9 k := by rw [← hwD]; exact HLA.out.call (chg_drewN _ _)
                have hgD : g1 < wD.heap.size := Nat.lt_of_lt_of_le hg1 (by rw [← hwD]; exact (chg_drewN _ _).size)
                clear hwD p1 pW pl k2 HLA HGC
                obtain ⟨a8, l8, c8, e8⟩ : ∃ a8 l8 c8, ov2 = .slice a8 l8 c8 := by obtain ⟨a8, c8, e, _⟩ := hLD.T.oa.at_; exact ⟨_, _, _, e⟩
                subst e8
                have HSF : Hid (∀ w' {ov3 : Value} {k3 : Nat}, Laying w0 w' t c p g n lb db ρx ov3 s z1 aa L2 (some ⟨g1, 0, none⟩) b9 k3 → w'.cell? ⟨t, 2, none⟩ = some (.slice (some ⟨lb, 0, none⟩) n n) ∧ w'.cell? ⟨g1, k, none⟩ = some (.int .i64 b2) ∧ w'.cell? ⟨lb, b2.toNat, none⟩ = some (.int .i64 lv)) := fun w' _ _ hl => by
                  refine ⟨hl.T.c2, ?_, ?_⟩
                  · rcases hl.L with h0 | ⟨g2, e2, _, hc2⟩
                    · rw [h0] at hklt; simp at hklt
                    · cases e2
                      rw [← HB2.out]
                      exact hc2 k hklt
                  · have := hl.T.lc (k := b2.toNat) (by omega)
                    rw [← HLV.out]
                    exact this
                have HS1 := hid (HSF.out wD hLD)
                have hcD : Chg wD (wD.drew.alloc (.cells #[.int .i64 aa, .int .i64 s.nx, .int .i64 b2, .int .i64 lv] 82)) No := (Chg.refl wD No).drew.tr (Chg.alloc _ _ _)
                have hLE := hLD.call hcD
                have HS2 := hid (HSF.out _ hLE)
                have KO1 := hid (show wD.drew.cell? ⟨t, 4, none⟩ = some (.slice a8 l8 c8) from hLD.T.c4)
                have KO2 := hid (hLD.call (Chg.alloc wD (.cells #[.int .i64 aa, .int .i64 s.nx, .int .i64 b2, .int .i64 lv] 82) No)).T.c4
                have HOA := hid (show Ords (wD.drew.alloc (.cells #[.int .i64 aa, .int .i64 s.nx, .int .i64 b2, .int .i64 lv] 82)) w0.heap.size (.slice a8 l8 c8) (s.od ++ newO s aa s.nx (L2.take k)) from hLE.T.oa)
                have HOB : Hid ((wD.drew.alloc (.cells #[.int .i64 aa, .int .i64 s.nx, .int .i64 b2, .int .i64 lv] 82)).heap[wD.heap.size]? = some (.cells (oc (aa, s.nx, b2, lv)).toArray 82 (0, 0))) := heap_alloc_new wD.drew _
                have HOL : Hid ((s.od ++ newO s aa s.nx (L2.take k)).length ≤ 1000000000000) := by
                  show _ ≤ _
                  have h1 : (newO s aa s.nx (L2.take k)).length ≤ (L2.take k).length := by unfold newO; rw [List.length_map]; exact List.length_filter_le _ _
                  have h2 := HAFL.out
                  have h3 := HM2.out
                  rw [List.length_append]
                  rw [List.length_take] at h1
                  omega
                have HBS : Hid (w0.heap.size ≤ (wD.drew.alloc (.cells #[.int .i64 aa, .int .i64 s.nx, .int .i64 b2, .int .i64 lv] 82)).heap.size) := hLE.T.ch.size
                have HS8F : Hid (∀ w8, Chg wD w8 (fun j => (Value.slice a8 l8 c8).ownBlock = some j) → (w8.cell? ⟨t, 2, none⟩ = some (.slice (some ⟨lb, 0, none⟩) n n) ∧ w8.cell? ⟨g1, k, none⟩ = some (.int .i64 b2) ∧ w8.cell? ⟨lb, b2.toNat, none⟩ = some (.int .i64 lv)) ∧ w8.cell? ⟨t, 4, none⟩ = some (.slice a8 l8 c8) ∧ w8.frozen? ⟨t, 4, none⟩ = false) := fun w8 hc => by
                  have hm8 := hc.keep hLD.T.me hLD.T.nto
                  refine ⟨⟨?_, ?_, ?_⟩, ?_, frozen_of_row w8 t 4 _ _ hm8⟩
                  · exact cell_keep hLD.T.c2 hc (slt hLD.T.me) hLD.T.nto
                  · exact cell_keep HS1.out.2.1 hc hgD (fun e => (hLD.o1 g1 e).2 g1 rfl rfl)
                  · exact cell_keep HS1.out.2.2 hc (slt hLD.T.la) hLD.T.nlo
                  · exact cell_keep hLD.T.c4 hc (slt hLD.T.me) hLD.T.nto
                have HMORE : Hid (∀ w8 v8, Chg wD w8 (fun j => (Value.slice a8 l8 c8).ownBlock = some j) → Ords w8 w0.heap.size v8 (s.od ++ newO s aa s.nx (L2.take k) ++ [(aa, s.nx, b2, lv)]) → (v8.ownBlock = (Value.slice a8 l8 c8).ownBlock ∨ v8.ownBlock = some (wD.drew.alloc (.cells #[.int .i64 aa, .int .i64 s.nx, .int .i64 b2, .int .i64 lv] 82)).heap.size) → Laying w0 (w8.setCell ⟨t, 4, none⟩ v8) t c p g n lb db ρx v8 s z1 aa L2 (some ⟨g1, 0, none⟩) b9 (k + 1)) := fun w8 v8 hc hv ho => by
                  refine hLD.more hklt (by rw [HB2.out]; exact HNT.out) hc ?_ ho hcD.size
                  rw [HB2.out, HLV.out]
                  exact hv
                clear hLD hLE hcD hgD hg1
                refine wp_region_noPanic ?_
                refine wp_region_held_drew (S := fun w' => w'.cell? ⟨t, 2, none⟩ = some (.slice (some ⟨lb, 0, none⟩) n n) ∧ w'.cell? ⟨g1, k, none⟩ = some (.int .i64 b2) ∧ w'.cell? ⟨lb, b2.toNat, none⟩ = some (.int .i64 lv)) (by as_aux_lemma => kernel_rfl) HS1.out (fun hHeld => ?_)
                refine takeVal 0 111 (.pointer (some ⟨t, 0, none⟩)) rfl (by as_aux_lemma => kernel_rfl) (by as_aux_lemma => kernel_rfl) (by as_aux_lemma => kernel_rfl) rfl (by rfl) (fun _ _ _ h => h) hHeld (fun _ hw' => rfl) ?_
                simp only [List.setIfInBounds_toArray, List.set_cons_zero, List.set_cons_succ]
                refine takeVal 1 112 (.pointer (some ⟨t, 0, none⟩)) rfl (by as_aux_lemma => kernel_rfl) (by as_aux_lemma => kernel_rfl) (by as_aux_lemma => kernel_rfl) rfl (by rfl) (fun _ _ _ h => h) hHeld (fun _ hw' => rfl) ?_
                simp only [List.setIfInBounds_toArray, List.set_cons_zero, List.set_cons_succ]
                refine takeVal 2 113 (.pointer (some ⟨t, 0, none⟩)) rfl (by as_aux_lemma => kernel_rfl) (by as_aux_lemma => kernel_rfl) (by as_aux_lemma => kernel_rfl) rfl (by rfl) (fun _ _ _ h => h) hHeld (fun _ hw' => by go_simp) ?_
                simp only [List.setIfInBounds_toArray, List.set_cons_zero, List.set_cons_succ]
                refine takeVal 3 114 (.pointer (some ⟨t, 4, none⟩)) rfl (by as_aux_lemma => kernel_rfl) (by as_aux_lemma => kernel_rfl) (by as_aux_lemma => kernel_rfl) rfl (by rfl) (fun _ _ _ h => h) hHeld (fun _ hw' => by go_simp) ?_
                simp only [List.setIfInBounds_toArray, List.set_cons_zero, List.set_cons_succ]
                refine takeVal 5 116 (.int .i64 aa) rfl (by as_aux_lemma => kernel_rfl) (by as_aux_lemma => kernel_rfl) (by as_aux_lemma => kernel_rfl) rfl (by rfl) (fun _ _ _ h => h) hHeld (fun _ hw' => rfl) ?_
                simp only [List.setIfInBounds_toArray, List.set_cons_zero, List.set_cons_succ]
                refine takeVal 6 117 (.int .i64 s.nx) rfl (by as_aux_lemma => kernel_rfl) (by as_aux_lemma => kernel_rfl) (by as_aux_lemma => kernel_rfl) rfl (by rfl) (fun _ _ _ h => h) hHeld (fun _ hw' => rfl) ?_
                simp only [List.setIfInBounds_toArray, List.set_cons_zero, List.set_cons_succ]
                refine takeVal 7 118 (.slice (some ⟨g1, 0, none⟩) m2 c6) rfl (by as_aux_lemma => kernel_rfl) (by as_aux_lemma => kernel_rfl) (by as_aux_lemma => kernel_rfl) rfl (by rfl) (fun _ _ _ h => h) hHeld (fun _ hw' => rfl) ?_
                simp only [List.setIfInBounds_toArray, List.set_cons_zero, List.set_cons_succ]
                refine takeVal 8 119 (.int .i64 (k : Int)) rfl (by as_aux_lemma => kernel_rfl) (by as_aux_lemma => kernel_rfl) (by as_aux_lemma => kernel_rfl) rfl (by rfl) (fun _ _ _ h => h) hHeld (fun _ hw' => rfl) ?_
                simp only [List.setIfInBounds_toArray, List.set_cons_zero, List.set_cons_succ]
                refine takeVal 9 120 (.pointer (some ⟨g1, k, none⟩)) rfl (by as_aux_lemma => kernel_rfl) (by as_aux_lemma => kernel_rfl) (by as_aux_lemma => kernel_rfl) rfl (by rfl) (fun _ _ _ h => h) hHeld (fun _ hw' => by go_simp) ?_
                simp only [List.setIfInBounds_toArray, List.set_cons_zero, List.set_cons_succ]
                refine takeVal 10 121 (.int .i64 b2) rfl (by as_aux_lemma => kernel_rfl) (by as_aux_lemma => kernel_rfl) (by as_aux_lemma => kernel_rfl) rfl (by rfl) (fun _ _ _ h => h) hHeld (fun _ hw' => by have hq' := hw'.2.1; go_simp) ?_
                simp only [List.setIfInBounds_toArray, List.set_cons_zero, List.set_cons_succ]
                refine takeVal 11 122 (.pointer (some ⟨t, 0, none⟩)) rfl (by as_aux_lemma => kernel_rfl) (by as_aux_lemma => kernel_rfl) (by as_aux_lemma => kernel_rfl) rfl (by rfl) (fun _ _ _ h => h) hHeld (fun _ hw' => rfl) ?_
                simp only [List.setIfInBounds_toArray, List.set_cons_zero, List.set_cons_succ]
                refine takeVal 12 123 (.pointer (some ⟨t, 0, none⟩)) rfl (by as_aux_lemma => kernel_rfl) (by as_aux_lemma => kernel_rfl) (by as_aux_lemma => kernel_rfl) rfl (by rfl) (fun _ _ _ h => h) hHeld (fun _ hw' => by go_simp) ?_
                simp only [List.setIfInBounds_toArray, List.set_cons_zero, List.set_cons_succ]
                refine takeVal 13 124 (.pointer (some ⟨t, 2, none⟩)) rfl (by as_aux_lemma => kernel_rfl) (by as_aux_lemma => kernel_rfl) (by as_aux_lemma => kernel_rfl) rfl (by rfl) (fun _ _ _ h => h) hHeld (fun _ hw' => by go_simp) ?_
                simp only [List.setIfInBounds_toArray, List.set_cons_zero, List.set_cons_succ]
                refine takeVal 14 125 (.slice (some ⟨lb, 0, none⟩) n n) rfl (by as_aux_lemma => kernel_rfl) (by as_aux_lemma => kernel_rfl) (by as_aux_lemma => kernel_rfl) rfl (by rfl) (fun _ _ _ h => h) hHeld (fun _ hw' => by have hq' := hw'.1; go_simp) ?_
                simp only [List.setIfInBounds_toArray, List.set_cons_zero, List.set_cons_succ]
                refine takeVal 15 126 (.slice (some ⟨g1, 0, none⟩) m2 c6) rfl (by as_aux_lemma => kernel_rfl) (by as_aux_lemma => kernel_rfl) (by as_aux_lemma => kernel_rfl) rfl (by rfl) (fun _ _ _ h => h) hHeld (fun _ hw' => rfl) ?_
                simp only [List.setIfInBounds_toArray, List.set_cons_zero, List.set_cons_succ]
                refine takeVal 16 127 (.int .i64 (k : Int)) rfl (by as_aux_lemma => kernel_rfl) (by as_aux_lemma => kernel_rfl) (by as_aux_lemma => kernel_rfl) rfl (by rfl) (fun _ _ _ h => h) hHeld (fun _ hw' => rfl) ?_
                simp only [List.setIfInBounds_toArray, List.set_cons_zero, List.set_cons_succ]
                refine takeVal 17 128 (.pointer (some ⟨g1, k, none⟩)) rfl (by as_aux_lemma => kernel_rfl) (by as_aux_lemma => kernel_rfl) (by as_aux_lemma => kernel_rfl) rfl (by rfl) (fun _ _ _ h => h) hHeld (fun _ hw' => by go_simp) ?_
                simp only [List.setIfInBounds_toArray, List.set_cons_zero, List.set_cons_succ]
                refine takeVal 18 129 (.int .i64 b2) rfl (by as_aux_lemma => kernel_rfl) (by as_aux_lemma => kernel_rfl) (by as_aux_lemma => kernel_rfl) rfl (by rfl) (fun _ _ _ h => h) hHeld (fun _ hw' => by have hq' := hw'.2.1; go_simp) ?_
                simp only [List.setIfInBounds_toArray, List.set_cons_zero, List.set_cons_succ]
                refine takeVal 19 130 (.pointer (some ⟨lb, b2.toNat, none⟩)) rfl (by as_aux_lemma => kernel_rfl) (by as_aux_lemma => kernel_rfl) (by as_aux_lemma => kernel_rfl) rfl (by rfl) (fun _ _ _ h => h) hHeld (fun _ hw' => by go_simp) ?_
                simp only [List.setIfInBounds_toArray, List.set_cons_zero, List.set_cons_succ]
                refine takeVal 20 131 (.int .i64 lv) rfl (by as_aux_lemma => kernel_rfl) (by as_aux_lemma => kernel_rfl) (by as_aux_lemma => kernel_rfl) rfl (by rfl) (fun _ _ _ h => h) hHeld (fun _ hw' => by have hq' := hw'.2.2; go_simp) ?_
                simp only [List.setIfInBounds_toArray, List.set_cons_zero, List.set_cons_succ]
                refine takeVal 21 132 (.agg #[.int .i64 aa, .int .i64 s.nx, .int .i64 b2, .int .i64 lv]) rfl (by as_aux_lemma => kernel_rfl) (by as_aux_lemma => kernel_rfl) (by as_aux_lemma => kernel_rfl) rfl (by rfl) (fun _ _ _ h => h) hHeld (fun _ hw' => by go_simp) ?_
                simp only [List.setIfInBounds_toArray, List.set_cons_zero, List.set_cons_succ]
                refine step2 4 22 (by as_aux_lemma => kernel_rfl) ?_ ?_
                · refine stVal 4 115 (.slice a8 l8 c8) rfl rfl (by rfl) (by have hq' := KO1.out; go_simp) hHeld ?_
                  simp only [List.setIfInBounds_toArray, List.set_cons_zero, List.set_cons_succ]
                  refine step1 22 (by as_aux_lemma => kernel_rfl) ?_
                  refine stNew 22 133 (.slice (some ⟨wD.heap.size, 0, none⟩) 1 1) (.cells #[.int .i64 aa, .int .i64 s.nx, .int .i64 b2, .int .i64 lv] 82) rfl rfl (by rfl) (by go_simp; first | done | rfl) ?_
                  have hHeld := HS2.out
                  refine ⟨hHeld, ?_⟩
                  simp only [List.setIfInBounds_toArray, List.set_cons_zero, List.set_cons_succ]
                  refine step1 23 (by as_aux_lemma => kernel_rfl) ?_
                  refine stAppO 23 134 rfl rfl (by rfl) _ _ rfl w0.heap.size wD.heap.size 1 (.slice a8 l8 c8) (s.od ++ newO s aa s.nx (L2.take k)) (aa, s.nx, b2, lv) rfl rfl HOA.out HOB.out HOL.out HBS.out ?_
                  intro v8 w8 h81 h82 h83
                  have hc8 : Chg wD w8 (fun j => (Value.slice a8 l8 c8).ownBlock = some j) := ((Chg.refl wD No).drew.tr (Chg.alloc wD.drew _ No)).trans h82 (fun _ _ e => e.elim) (fun _ _ e => e)
                  obtain ⟨hHeld, k84, f84⟩ := HS8F.out w8 hc8
                  refine ⟨hHeld, ?_⟩
                  simp only [List.setIfInBounds_toArray, List.set_cons_zero, List.set_cons_succ]
                  refine takeVal 24 135 (.pointer (some ⟨t, 0, none⟩)) rfl (by as_aux_lemma => kernel_rfl) (by as_aux_lemma => kernel_rfl) (by as_aux_lemma => kernel_rfl) rfl (by rfl) (fun _ _ _ h => h) hHeld (fun _ hw' => by go_simp) ?_
                  simp only [List.setIfInBounds_toArray, List.set_cons_zero, List.set_cons_succ]
                  refine takeVal 25 136 (.pointer (some ⟨t, 4, none⟩)) rfl (by as_aux_lemma => kernel_rfl) (by as_aux_lemma => kernel_rfl) (by as_aux_lemma => kernel_rfl) rfl (by rfl) (fun _ _ _ h => h) hHeld (fun _ hw' => by go_simp) ?_
                  simp only [List.setIfInBounds_toArray, List.set_cons_zero, List.set_cons_succ]
                  refine step1 26 (by as_aux_lemma => kernel_rfl) ?_
                  refine stCell 26 (w8.setCell ⟨t, 4, none⟩ v8) rfl rfl (by rfl) (by obtain ⟨q8, d8, e8, _⟩ := h81.at_; rw [e8]; clear e8; go_simp) ?_
                  have hLf := HMORE.out w8 v8 hc8 h81 h83
                  have hHeld := HSF.out _ hLf
                  refine ⟨hHeld, ?_⟩
                  clear hHeld k84 f84
                  refine wpAnyH_done (by as_aux_lemma => kernel_rfl) ?_ _
                  refine NoPanic.normal ?_
                  have HLF := hid hLf
                  clear hLf h81 h82 h83 hc8
                  go_wp2_with fail
                  exact ⟨⟨k + 1, v8, _, rfl, HLT.out, by go_num, HLF.out⟩, by have := HLT.out; simp [intOf]; omega⟩
                · refine stNew 22 133 (.slice (some ⟨wD.heap.size, 0, none⟩) 1 1) (.cells #[.int .i64 aa, .int .i64 s.nx, .int .i64 b2, .int .i64 lv] 82) rfl rfl (by rfl) (by go_simp; first | done | rfl) ?_
                  have hHeld := HS2.out
                  refine ⟨hHeld, ?_⟩
                  simp only [List.setIfInBounds_toArray, List.set_cons_zero, List.set_cons_succ]
                  refine step1 4 (by as_aux_lemma => kernel_rfl) ?_
                  refine stVal 4 115 (.slice a8 l8 c8) rfl rfl (by rfl) (by have hq' := KO2.out; go_simp) hHeld ?_
                  simp only [List.setIfInBounds_toArray, List.set_cons_zero, List.set_cons_succ]
                  refine step1 23 (by as_aux_lemma => kernel_rfl) ?_
                  refine stAppO 23 134 rfl rfl (by rfl) _ _ rfl w0.heap.size wD.heap.size 1 (.slice a8 l8 c8) (s.od ++ newO s aa s.nx (L2.take k)) (aa, s.nx, b2, lv) rfl rfl HOA.out HOB.out HOL.out HBS.out ?_
                  intro v8 w8 h81 h82 h83
                  have hc8 : Chg wD w8 (fun j => (Value.slice a8 l8 c8).ownBlock = some j) := ((Chg.refl wD No).drew.tr (Chg.alloc wD.drew _ No)).trans h82 (fun _ _ e => e.elim) (fun _ _ e => e)
                  obtain ⟨hHeld, k84, f84⟩ := HS8F.out w8 hc8
                  refine ⟨hHeld, ?_⟩
                  simp only [List.setIfInBounds_toArray, List.set_cons_zero, List.set_cons_succ]
                  refine takeVal 24 135 (.pointer (some ⟨t, 0, none⟩)) rfl (by as_aux_lemma => kernel_rfl) (by as_aux_lemma => kernel_rfl) (by as_aux_lemma => kernel_rfl) rfl (by rfl) (fun _ _ _ h => h) hHeld (fun _ hw' => by go_simp) ?_
                  simp only [List.setIfInBounds_toArray, List.set_cons_zero, List.set_cons_succ]
                  refine takeVal 25 136 (.pointer (some ⟨t, 4, none⟩)) rfl (by as_aux_lemma => kernel_rfl) (by as_aux_lemma => kernel_rfl) (by as_aux_lemma => kernel_rfl) rfl (by rfl) (fun _ _ _ h => h) hHeld (fun _ hw' => by go_simp) ?_
                  simp only [List.setIfInBounds_toArray, List.set_cons_zero, List.set_cons_succ]
                  refine step1 26 (by as_aux_lemma => kernel_rfl) ?_
                  refine stCell 26 (w8.setCell ⟨t, 4, none⟩ v8) rfl rfl (by rfl) (by obtain ⟨q8, d8, e8, _⟩ := h81.at_; rw [e8]; clear e8; go_simp) ?_
                  have hLf := HMORE.out w8 v8 hc8 h81 h83
                  have hHeld := HSF.out _ hLf
                  refine ⟨hHeld, ?_⟩
                  clear hHeld k84 f84
                  refine wpAnyH_done (by as_aux_lemma => kernel_rfl) ?_ _
                  refine NoPanic.normal ?_
                  have HLF := hid hLf
                  clear hLf h81 h82 h83 hc8
                  go_wp2_with fail
                  exact ⟨⟨k + 1, v8, _, rfl, HLT.out, by go_num, HLF.out⟩, by have := HLT.out; simp [intOf]; omega⟩
            · have hT := hLa.T
              rw [List.take_of_length_le (by rw [HM2.out]; omega)] at hT
              have k2 := hT.c2
              have hba := HBD.out
              have kl := hT.lc (k := aa.toNat) (by omega)
              have fl := frozen_of_row _ lb aa.toNat _ _ hT.la
              have hT2 := hT.told aa.toNat s.nx
              have k3 := hT2.c3
              have kd := hT2.dc (k := aa.toNat) (by omega)
              have fd := frozen_of_row _ db aa.toNat _ _ hT2.da
              have HT2 := hid (hT2.flag aa.toNat true)
              have hi1 : ¬ (k : Int) < (m2 : Int) := by omega
              obtain ⟨ha0, ha1⟩ := hba
              clear hT hT2 hLa
              go_wp2_with fail
              go_ret
              rw [HPT.out]
              first | rw [if_pos trivial] | rw [if_pos rfl]
              exact ⟨rfl, lb, db, ρx, ov2, HT2.out⟩
        · have hb1 : (e1 != 0) = true := by simpa using he1
          have HTX := hid hTx
          have HE1 := hid he1
          clear hTx hTv hLv hPx hHeld he1
          go_wp2_with fail
          go_ret
          rw [HPT.out, if_neg HE1.out]
          exact ⟨rfl, lb, db, ρx, ov, HTX.out⟩

end Go.Proofs.YtgkanfmkohlmcaaGreat
