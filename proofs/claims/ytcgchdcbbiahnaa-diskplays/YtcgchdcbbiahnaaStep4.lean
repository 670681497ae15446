/-
  A step on the desk: Image.
-/
import Derived.Test.YtcgchdcbbiahnaaStep3
namespace Go.Proofs.Ytcgchdcbbiahnaa
open Go.RowKit

theorem infoV : ∃ i, Try.prog.info? 30 = some i ∧ i.zero = some (.slice none 0 0) ∧ i.size = 1 ∧ i.bytes = 24 := by
  have h : (Try.prog.info? 30).map (fun i => (i.zero, i.size, i.bytes)) = some (some (.slice none 0 0), 1, 24) := by kernel_rfl
  cases hq : Try.prog.info? 30 with
  | none => rw [hq] at h; cases h
  | some i =>
    rw [hq] at h
    simp at h
    exact ⟨i, rfl, h.1, h.2.1, h.2.2⟩
theorem set_one (v : Value) : ((Array.map (fun x => [Value.slice none 0 0][x % 1]?.getD default) (Array.range 1)).setIfInBounds 0 v) = #[v] := by
  apply Array.ext
  · simp
  · intro i h1 h2
    have : i = 0 := by simp at h2; omega
    subst this
    simp
theorem build_oneV (a : Option Addr) (n c : Nat) (w : World) :
    (Instr.buildSlice 48 1 #[(0, .slice a n c)]).run Try.prog w = .ok (.slice (some ⟨w.heap.size, 0, none⟩) 1 1) (w.alloc (.cells #[.slice a n c] 30)) := by
  obtain ⟨i, hi, hz, hsz, hb⟩ := infoV
  simp only [Instr.buildSlice, Sem.run_bind, run_underlying Try.underlying48, Result.andThen_ok]
  simp [sizeOf, typeInfo, hi, hsz, zeroValue, hz, Instr.fill, Value.cells, newRow]
  rw [set_one]
theorem slice_oneV {ops : Array Oper} {rest : List Oper} {o : Oper} {a : Act} {w : World} {Q : Exit → Act → World → Prop} (hgd : o.guard = none) (x : Operand) (ho : o.op = .buildSlice 48 1 #[(0, x)])
    (ad : Option Addr) (n c : Nat) (hx : a.eval x = .slice ad n c) (h : wpList Try.prog ops Q rest (a.put o.dst (.slice (some ⟨w.heap.size, 0, none⟩) 1 1)) (w.alloc (.cells #[.slice ad n c] 30))) :
    wpList Try.prog ops Q (o :: rest) a w :=
  wpList_plain hgd fun K hK => by
    have e : (#[(0, x)] : Array (Nat × Operand)).map (fun (i, x) => (i, a.eval x)) = #[(0, .slice ad n c)] := by simp [hx]
    unfold Oper.wp execOp
    simp only [ho]
    rw [e]
    simp only [Sem.run_bind, build_oneV, Result.andThen_ok, Sem.run_pure]
    exact hK _ _ h
theorem one_src {w : World} {b : Nat} {e : Value} (h : w.cell? ⟨b, 0, none⟩ = some e) : ∀ j u, [e][j]? = some u → w.cell? ((⟨b, 0, none⟩ : Addr).add j) = some u := by
  intro j u hj
  match j, hj with
  | 0, hj => rw [addr_add]; simp at hj; rw [← hj]; exact h
  | j + 1, hj => simp at hj
theorem append_oneV {ops : Array Oper} {rest : List Oper} {o : Oper} {a : Act} {w : World} {Q : Exit → Act → World → Prop} (hgd : o.guard = none) (s x : Operand)
    (ho : o.op = .call { callee := .builtin .append, args := #[s, x], argTypes := #[48, 48] }) (base n c b : Nat) (v e : Value) (l : List Value) (he : e.oneCell' = true) (hs : a.eval s = v) (hx : a.eval x = .slice (some ⟨b, 0, none⟩) 1 c)
    (hown : w.ownsRow base 30 1 v n l) (hat : w.cell? ⟨b, 0, none⟩ = some e) (hb : n ≤ 1000000) (hbase : base ≤ w.heap.size)
    (h : ∀ v' w', w'.ownsRow base 30 1 v' (n + 1) (l ++ [e]) → w.grownBy w' v.ownBlock → (v'.ownBlock = v.ownBlock ∨ v'.ownBlock = some w.heap.size) → wpList Try.prog ops Q rest (a.put o.dst v') w') : wpList Try.prog ops Q (o :: rest) a w := by
  obtain ⟨i, hi, hz, hsz, hby⟩ := infoV
  exact wpList_append_own_at w hgd s x 48 ho base 30 i _ 1 24 Try.underlying48 hi hz hsz hby rfl (by decide) v n l hs hown _ 1 c [e] hx rfl (one_src hat) (by simpa using he) (by unfold maxLen; omega) (by omega) hbase (fun v' w' h1 h2 _ h3 => h v' w' h1 h2 h3)
section
variable {ops : Array Oper} {Q : Exit → Act → World → Prop} {S : World → Prop} {fuel : Nat} {listed : Array Bool} {a : Act} {w : World}
theorem stAppV (i d : Nat) {o : Oper} (hop : ops[i]? = some o) (hd : o.dst = some d) (hw : Region.wanted o (yielded ops a.tmps) = true) (s x : Operand)
    (ho : o.op = .call { callee := .builtin .append, args := #[s, x], argTypes := #[48, 48] }) (base n c b : Nat) (v e : Value) (l : List Value) (he : e.oneCell' = true) (hs : a.eval s = v) (hx : a.eval x = .slice (some ⟨b, 0, none⟩) 1 c)
    (hown : w.ownsRow base 30 1 v n l) (hat : w.cell? ⟨b, 0, none⟩ = some e) (hb : n ≤ 1000000) (hbase : base ≤ w.heap.size)
    (h : ∀ v' w', w'.ownsRow base 30 1 v' (n + 1) (l ++ [e]) → w.grownBy w' v.ownBlock → (v'.ownBlock = v.ownBlock ∨ v'.ownBlock = some w.heap.size) →
      S w' ∧ wpAnyH Try.prog .any ops Q S fuel (listed.setIfInBounds i true) { a with tmps := a.tmps.setIfInBounds d v' } w') : St ops Q S fuel listed a w i := by
  obtain ⟨ti, hi, hz, hsz, hby⟩ := infoV
  obtain ⟨v', w', hr, h2, h3, _, h5⟩ := run_append_own_at (P := Try.prog) w base 48 o.type 30 ti _ 1 24 Try.underlying48 hi hz hsz hby rfl (by decide) v n l hown _ 1 c [e] rfl (one_src hat) (by simpa using he) (by unfold maxLen; omega) (by omega) hbase
  have hh := h v' w' h2 h3 h5
  refine wpOp_step hop (fun K hK => ?_)
  rw [if_pos hw]
  unfold Oper.wp execOp
  simp only [ho, resolve, invoke, builtin, Sem.run_bind, Sem.run_pure, Result.andThen_ok, List.map_toArray, List.map_cons, List.map_nil, hs, hx, hr]
  refine hK _ _ ⟨hh.1, ?_⟩
  unfold Act.put
  rw [hd]
  exact hh.2
end

theorem Mod.grown {w w' : World} {v : Value} (h : w.grownBy w' v.ownBlock) : Mod w w' v.ownBlock.toList :=
  ⟨h.os, h.tape, h.output, h.size, fun k hk hn => h.block k hk (fun e => hn (by rw [← e]; simp))⟩
theorem row_slice {w : World} {base : Nat} {e : TypeId} {k n : Nat} {v : Value} {xs : List Value} (h : w.ownsRow base e k v n xs) : ∃ a c, v = .slice a n c := by
  rcases h.2 with ⟨rfl, rfl⟩ | ⟨g, cap, cur, rfl, _⟩
  · exact ⟨none, 0, rfl⟩
  · exact ⟨_, _, rfl⟩
theorem row_lt {w : World} {base : Nat} {e : TypeId} {k n : Nat} {v : Value} {xs : List Value} (h : w.ownsRow base e k v n xs) {b : Nat} (hb : v.ownBlock = some b) : b < w.heap.size := by
  obtain ⟨cur, hc, _⟩ := row_blk h hb
  exact slt hc

/-- Behind the first of the two appends. -/
structure TInv (w0 wI w : World) (x : Nat) (s : DS) (v' va : Value) : Prop where
  desk : w.heap[x]? = some (.cells (deskC { s with vl := v' }) 50 (0, 0))
  rl : w.ownsRow w0.heap.size 30 1 v' (s.ims.length + 1) (s.ims.map Im.va ++ [va])
  rw : w.ownsRow w0.heap.size 30 1 s.vw s.ims.length (s.ims.map Im.vb)
  lw : ∀ b, v'.ownBlock = some b → s.vw.ownBlock ≠ some b
  md : Mod wI w (s.vl.ownBlock.toList ++ [x])
  isq : ∀ k, k < 3 → IsQ w (s.R k) (s.K k) (s.N k) (s.C k) (s.X k) (s.D k)
theorem TInv.call {w0 wI w w' : World} {x : Nat} {s : DS} {v' va : Value} (h : TInv w0 wI w x s v' va) (hb : Below w.heap.size w w') : TInv w0 wI w' x s v' va := by
  have hm := Mod.of_below hb
  exact ⟨by rw [hb.block x (slt h.desk)]; exact h.desk, row_keep h.rl hm (fun _ _ => by simp), row_keep h.rw hm (fun _ _ => by simp), h.lw, (h.md.trans hm).mono (fun y hy _ => by simpa using hy), fun k hk => (h.isq k hk).call hb⟩
theorem TInv.drew {w0 wI w : World} {x : Nat} {s : DS} {v' va : Value} (h : TInv w0 wI w x s v' va) : TInv w0 wI w.drew x s v' va := h.call ⟨rfl, rfl, rfl, Nat.le_refl _, fun _ _ => rfl⟩
theorem TInv.cR {w0 wI w : World} {x : Nat} {s : DS} {v' va : Value} (h : TInv w0 wI w x s v' va) (k : Nat) (hk : k < 3) : w.cell? ⟨x, 3 + k, none⟩ = some (.pointer (some ⟨s.R k, 0, none⟩)) := desk_cR (s := { s with vl := v' }) h.desk k hk
theorem TInv.c7 {w0 wI w : World} {x : Nat} {s : DS} {v' va : Value} (h : TInv w0 wI w x s v' va) : w.cell? ⟨x, 7, none⟩ = some s.vw := by rw [cell_of_row _ _ _ _ _ _ h.desk]; rfl

/-- The first append. -/
theorem TInv.make {w0 wI wN w2 : World} {x j : Nat} {s : DS} {v' va : Value} (h : DInv w0 wI x s j) (hb : Below wI.heap.size wI wN) (hg : wN.grownBy w2 s.vl.ownBlock) (hrow : w2.ownsRow w0.heap.size 30 1 v' (s.ims.length + 1) (s.ims.map Im.va ++ [va]))
    (hat : v'.ownBlock = s.vl.ownBlock ∨ v'.ownBlock = some wN.heap.size) : w2.heap[x]? = some (.cells (deskC s) 50 (0, 0)) ∧ TInv w0 wI (w2.setCell ⟨x, 6, none⟩ v') x s v' va := by
  have hN := h.call hb
  have hxl : s.vl.ownBlock ≠ some x := by
    intro e
    obtain ⟨cur, hc, _⟩ := row_blk hN.rl e
    exact tne hN.desk hc (by decide) rfl
  have hx2 : w2.heap[x]? = some (.cells (deskC s) 50 (0, 0)) := by
    rw [hg.block x (slt hN.desk) (fun e => hxl e.symm)]
    exact hN.desk
  have hm2 := Mod.grown hg
  have hms := Mod.set (w := w2) (g := x) (j := 6) (v := v')
  refine ⟨hx2, ⟨?_, ?_, ?_, ?_, ?_, ?_⟩⟩
  · rw [heap_setCell_same w2 x 6 _ 50 _ hx2]
    rfl
  · refine row_keep hrow hms fun b hb => ?_
    obtain ⟨cur, hc, _⟩ := row_blk hrow hb
    simpa using (tne hx2 hc (by decide)).symm
  · refine row_keep (row_keep hN.rw hm2 fun b hb => ?_) hms fun b hb => ?_
    · simp only [Option.mem_toList]
      intro e
      exact hN.lw b e hb
    · obtain ⟨cur, hc, _⟩ := row_blk hN.rw hb
      simpa using (tne hN.desk hc (by decide)).symm
  · intro b hb hw
    rcases hat with e | e
    · exact hN.lw b (e ▸ hb) hw
    · have := row_lt hN.rw hw
      rw [e] at hb
      injection hb with hb
      omega
  · exact (((Mod.of_below hb).trans hm2).trans hms).mono (fun y hy _ => by simpa using hy)
  · intro k hk
    refine ((hN.isq k hk).keep hm2 ?_ ?_).keep hms ?_ ?_
    · simp only [Option.mem_toList]
      intro e
      obtain ⟨cur, hc, _⟩ := row_blk hN.rl e
      exact tne hc (hN.isq k hk).me (by decide) rfl
    · simp only [Option.mem_toList]
      intro e
      obtain ⟨cur, hc, _⟩ := row_blk hN.rl e
      exact tne hc (hN.isq k hk).row (by decide) rfl
    · simpa using (tne hN.desk (hN.isq k hk).me (by decide)).symm
    · simpa using (tne hN.desk (hN.isq k hk).row (by decide)).symm

theorem out_blk {w0 wI : World} {x j : Nat} {s : DS} (hI : DInv w0 wI x s j) : ∀ (b : Nat) (cs : Array Value) (t : TypeId) (f : Nat × Nat), wI.heap[b]? = some (.cells cs t f) → t ≠ 50 → t ≠ 30 → b ∉ s.vl.ownBlock.toList ++ [x] := by
  intro b cs t f hb' t1 t2 hm
  simp only [List.mem_append, Option.mem_toList, List.mem_singleton] at hm
  rcases hm with e | e
  · obtain ⟨cur, hc, _⟩ := row_blk hI.rl e
    exact tne hb' hc t2 rfl
  · exact tne hb' hI.desk t1 e
/-- The second one. -/
theorem TInv.fin {w0 wP wI wN w6 : World} {x j : Nat} {s : DS} {v' v'' : Value} {e : Im} (h0 : DInv w0 wP x s j) (hPI : Below wP.heap.size wP wI) (h : TInv w0 wI wN x s v' e.va) (hg : wN.grownBy w6 s.vw.ownBlock)
    (hrow : w6.ownsRow w0.heap.size 30 1 v'' (s.ims.length + 1) (s.ims.map Im.vb ++ [e.vb])) (hat : v''.ownBlock = s.vw.ownBlock ∨ v''.ownBlock = some wN.heap.size) (ho : ImOK wN e) (ha : wP.heap.size ≤ e.a) (hb : wP.heap.size ≤ e.b) (hc : s.ims.length < 40) :
    w6.heap[x]? = some (.cells (deskC { s with vl := v' }) 50 (0, 0)) ∧ DInv w0 (w6.setCell ⟨x, 7, none⟩ v'') x { s with vl := v', vw := v'', ims := s.ims ++ [e] } j := by
  have hI := h0.call hPI
  have hxw : s.vw.ownBlock ≠ some x := by
    intro e
    obtain ⟨cur, hc, _⟩ := row_blk h.rw e
    exact tne h.desk hc (by decide) rfl
  have hx6 : w6.heap[x]? = some (.cells (deskC { s with vl := v' }) 50 (0, 0)) := by
    rw [hg.block x (slt h.desk) (fun e => hxw e.symm)]
    exact h.desk
  have hm6 := Mod.grown hg
  have hms := Mod.set (w := w6) (g := x) (j := 7) (v := v'')
  have hM := (h.md.trans hm6).trans hms
  have hks : ∀ y, y ∈ ((s.vl.ownBlock.toList ++ [x]) ++ s.vw.ownBlock.toList) ++ [x] → y = x ∨ s.vl.ownBlock = some y ∨ s.vw.ownBlock = some y := by
    intro y hy
    simp only [List.mem_append, Option.mem_toList, List.mem_singleton] at hy
    rcases hy with ((hy | hy) | hy) | hy
    · exact .inr (.inl hy)
    · exact .inl hy
    · exact .inr (.inr hy)
    · exact .inl hy
  have out : ∀ (b : Nat) (cs : Array Value) (t : TypeId) (f : Nat × Nat), wI.heap[b]? = some (.cells cs t f) → t ≠ 50 → t ≠ 30 → b ∉ ((s.vl.ownBlock.toList ++ [x]) ++ s.vw.ownBlock.toList) ++ [x] := by
    intro b cs t f hb' t1 t2 hm
    rcases hks b hm with e | e | e
    · exact tne hb' hI.desk t1 e
    · obtain ⟨cur, hc, _⟩ := row_blk hI.rl e
      exact tne hb' hc t2 rfl
    · obtain ⟨cur, hc, _⟩ := row_blk hI.rw e
      exact tne hb' hc t2 rfl
  have hrl : (w6.setCell ⟨x, 7, none⟩ v'').ownsRow w0.heap.size 30 1 v' (s.ims.length + 1) (s.ims.map Im.va ++ [e.va]) := by
    refine row_keep (row_keep h.rl hm6 fun b hb => ?_) hms fun b hb => ?_
    · simp only [Option.mem_toList]
      intro e
      exact h.lw b hb e
    · obtain ⟨cur, hc, _⟩ := row_blk h.rl hb
      simpa using (tne h.desk hc (by decide)).symm
  have hrw : (w6.setCell ⟨x, 7, none⟩ v'').ownsRow w0.heap.size 30 1 v'' (s.ims.length + 1) (s.ims.map Im.vb ++ [e.vb]) := by
    refine row_keep hrow hms fun b hb => ?_
    obtain ⟨cur, hc, _⟩ := row_blk hrow hb
    simpa using (tne hx6 hc (by decide)).symm
  have hoe : ImOK (w6.setCell ⟨x, 7, none⟩ v'') e := by
    refine (ho.keep hm6 ?_ ?_).keep hms ?_ ?_
    · simp only [Option.mem_toList]
      intro q
      obtain ⟨cur, hc, _⟩ := row_blk h.rw q
      exact tne hc ho.ha (by decide) rfl
    · simp only [Option.mem_toList]
      intro q
      obtain ⟨cur, hc, _⟩ := row_blk h.rw q
      exact tne hc ho.hb (by decide) rfl
    · simpa using (tne h.desk ho.ha (by decide)).symm
    · simpa using (tne h.desk ho.hb (by decide)).symm
  refine ⟨hx6, ⟨?_, fun k hk => ?_, fun k hk => ?_, h0.pp, h0.rr, h0.gg, h0.kk, h0.gk, fun y hy => ?_, fun y hy k hk => ?_, ?_, ?_, ?_, ?_, h0.bd, ?_, h0.bx, h0.bp⟩⟩
  · rw [heap_setCell_same w6 x 7 _ 50 _ hx6]
    rfl
  · exact (hI.isd k hk).keep hM (out _ _ _ _ (hI.isd k hk).me (by decide) (by decide)) (out _ _ _ _ (hI.isd k hk).row (by decide) (by decide))
  · exact (hI.isq k hk).keep hM (out _ _ _ _ (hI.isq k hk).me (by decide) (by decide)) (out _ _ _ _ (hI.isq k hk).row (by decide) (by decide))
  · rcases List.mem_append.1 hy with hy | hy
    · exact (hI.im y hy).keep hM (out _ _ _ _ (hI.im y hy).ha (by decide) (by decide)) (out _ _ _ _ (hI.im y hy).hb (by decide) (by decide))
    · rw [List.mem_singleton.1 hy]
      exact hoe
  · rcases List.mem_append.1 hy with hy | hy
    · exact h0.ia y hy k hk
    · rw [List.mem_singleton.1 hy]
      have h1 := slt (h0.isd k hk).row
      have h2 := slt (h0.isq k hk).row
      show (e.a ≠ s.G k ∧ e.a ≠ s.K k) ∧ e.b ≠ s.G k ∧ e.b ≠ s.K k
      omega
  · show (w6.setCell ⟨x, 7, none⟩ v'').ownsRow w0.heap.size 30 1 v' (s.ims ++ [e]).length ((s.ims ++ [e]).map Im.va)
    rw [List.map_append, List.length_append]
    exact hrl
  · show (w6.setCell ⟨x, 7, none⟩ v'').ownsRow w0.heap.size 30 1 v'' (s.ims ++ [e]).length ((s.ims ++ [e]).map Im.vb)
    rw [List.map_append, List.length_append]
    exact hrw
  · show ∀ b, v'.ownBlock = some b → v''.ownBlock ≠ some b
    intro b hb hw
    rcases hat with q | q
    · exact h.lw b hb (q ▸ hw)
    · have := row_lt h.rl hb
      rw [q] at hw
      injection hw with hw
      omega
  · show (s.ims ++ [e]).length ≤ 40
    rw [List.length_append]
    simp
    omega
  · refine hM.to hI.old hI.old.size fun y hy => ?_
    rcases hks y hy with q | q | q
    · rw [q]; exact h0.bx
    · obtain ⟨_, _, hq⟩ := row_blk hI.rl q
      exact hq
    · obtain ⟨_, _, hq⟩ := row_blk hI.rw q
      exact hq

set_option maxRecDepth 100000 in
set_option maxHeartbeats 4000000 in
theorem step_imgfull {w0 : World} {x j : Nat} {s : DS} (on tt N : Int) (ad : Option Addr) (L cap : Nat) (w : World) (h : DInv w0 w x s j) (hon : I64 on) (hto : I64 tt) (hc : s.ims.length = 40) :
    Calls Try.prog 25 #[.pointer (some ⟨x, 0, none⟩), .agg #[.int .i64 6, .int .i64 on, .int .i64 tt, .int .i64 N, .slice ad L cap]] w fun e w' => e = .returned (.bool true) ∧ ∃ s', DInv w0 w' x s' (j + 1) := by
  have hz := zero_sec
  have hgd := guard_sec
  have hk0 := pickN_bd on (show (1 : Int) ≤ 3 by decide)
  have ht0 := pickN_bd tt (show (1 : Int) ≤ 3 by decide)
  obtain ⟨k, hk⟩ := Int.eq_ofNat_of_zero_le hk0.1
  obtain ⟨t, ht⟩ := Int.eq_ofNat_of_zero_le ht0.1
  have hk3 : k < 3 := by omega
  have ht3 : t < 3 := by omega
  have hkl : (k : Int) < 3 := by omega
  have htl : (t : Int) < 3 := by omega
  have HKE := hid hk
  have HTE := hid ht
  clear hk0 ht0 hk ht
  have HI0 := hid (h.call (Below.refl_call w (.cells #[.int .i64 6, .int .i64 on, .int .i64 tt, .int .i64 N, .slice ad L cap] 54)))
  have HO0 := hid (heap_alloc_new w (.cells #[.int .i64 6, .int .i64 on, .int .i64 tt, .int .i64 N, .slice ad L cap] 54))
  have y0 := cell_of_row _ _ 0 _ _ _ HO0.out
  have y1 := cell_of_row _ _ 1 _ _ _ HO0.out
  have y2 := cell_of_row _ _ 2 _ _ _ HO0.out
  have y3 := cell_of_row _ _ 3 _ _ _ HO0.out
  have y4 := cell_of_row _ _ 4 _ _ _ HO0.out
  simp only [List.getElem?_toArray, List.getElem?_cons_zero, List.getElem?_cons_succ] at y0 y1 y2 y3 y4
  have c1 := HI0.out.cP k hk3
  have c2 := HI0.out.cR k hk3
  clear h
  go_enter Try.func25, Try.ntmps25
  have HCn := hid hc
  clear hc
  have HDk := hid (HI0.out.isd k hk3)
  have hn1 := HDk.out.top
  obtain ⟨a6, cap6, hv6⟩ := row_slice HI0.out.rl
  have HV6 := hid hv6
  clear hv6
  rw [HCn.out] at HV6
  go_wp2_with (first | (go_at_call 24; refine (pick_any _ _ _ (by first | exact hon | exact hto) (by decide) (by decide)).mono ?_; rintro e w5 ⟨rfl, rfl⟩; first | rw [HKE.out] | rw [HTE.out]) | (go_at_call 12; refine (image_any _ HDk.out).mono ?_; rintro e wI ⟨qi, rfl, hqi, hri, hbI⟩; have HII := hid (HI0.out.call hbI); have HRI := hid hri; have HBI := hid hbI; have HQI := hid hqi; have y6I := HII.out.c6; rw [HV6.out] at y6I; have HS1 := hid (row_bytes HRI.out); have HS2 := hid (rowX_bytes (HII.out.isq k hk3).row); have cRk := HII.out.cR k hk3; have qA := (HII.out.isq k hk3).c0; clear hqi hri hbI) | (go_at_call 13; refine (same_any (s.D k).S (s.N k) _ _ _ _ _ HDk.out.len (by omega) HS1.out HS2.out).mono ?_; rintro e wF ⟨rfl, nF, rfl⟩))
  go_ret
  exact ⟨rfl, s, (HII.out.drewN nF).mono (by omega)⟩

set_option maxRecDepth 100000 in
set_option maxHeartbeats 4000000 in
theorem step_imgroom {w0 : World} {x j : Nat} {s : DS} (on tt N : Int) (ad : Option Addr) (L cap : Nat) (w : World) (h : DInv w0 w x s j) (hon : I64 on) (hto : I64 tt) (hc : s.ims.length < 40) :
    Calls Try.prog 25 #[.pointer (some ⟨x, 0, none⟩), .agg #[.int .i64 6, .int .i64 on, .int .i64 tt, .int .i64 N, .slice ad L cap]] w fun e w' => e = .returned (.bool true) ∧ ∃ s', DInv w0 w' x s' (j + 1) := by
  have hz := zero_sec
  have hgd := guard_sec
  have hk0 := pickN_bd on (show (1 : Int) ≤ 3 by decide)
  have ht0 := pickN_bd tt (show (1 : Int) ≤ 3 by decide)
  obtain ⟨k, hk⟩ := Int.eq_ofNat_of_zero_le hk0.1
  obtain ⟨t, ht⟩ := Int.eq_ofNat_of_zero_le ht0.1
  have hk3 : k < 3 := by omega
  have ht3 : t < 3 := by omega
  have hkl : (k : Int) < 3 := by omega
  have htl : (t : Int) < 3 := by omega
  have HKE := hid hk
  have HTE := hid ht
  clear hk0 ht0 hk ht
  have HI0 := hid (h.call (Below.refl_call w (.cells #[.int .i64 6, .int .i64 on, .int .i64 tt, .int .i64 N, .slice ad L cap] 54)))
  have HO0 := hid (heap_alloc_new w (.cells #[.int .i64 6, .int .i64 on, .int .i64 tt, .int .i64 N, .slice ad L cap] 54))
  have y0 := cell_of_row _ _ 0 _ _ _ HO0.out
  have y1 := cell_of_row _ _ 1 _ _ _ HO0.out
  have y2 := cell_of_row _ _ 2 _ _ _ HO0.out
  have y3 := cell_of_row _ _ 3 _ _ _ HO0.out
  have y4 := cell_of_row _ _ 4 _ _ _ HO0.out
  simp only [List.getElem?_toArray, List.getElem?_cons_zero, List.getElem?_cons_succ] at y0 y1 y2 y3 y4
  have c1 := HI0.out.cP k hk3
  have c2 := HI0.out.cR k hk3
  clear h
  go_enter Try.func25, Try.ntmps25
  have HDk := hid (HI0.out.isd k hk3)
  have hn1 := HDk.out.top
  obtain ⟨a6, cap6, hv6⟩ := row_slice HI0.out.rl
  have HV6 := hid hv6
  clear hv6
  have hci : (s.ims.length : Int) < 40 := by omega
  obtain ⟨a7, cap7, hv7⟩ := row_slice HI0.out.rw
  have HV7 := hid hv7
  clear hv7
  go_upto_region 27 with (first | (go_at_call 24; refine (pick_any _ _ _ (by first | exact hon | exact hto) (by decide) (by decide)).mono ?_; rintro e w5 ⟨rfl, rfl⟩; first | rw [HKE.out] | rw [HTE.out]) | (go_at_call 12; refine (image_any _ HDk.out).mono ?_; rintro e wI ⟨qi, rfl, hqi, hri, hbI⟩; have HII := hid (HI0.out.call hbI); have HRI := hid hri; have HBI := hid hbI; have HQI := hid hqi; have y6I := HII.out.c6; rw [HV6.out] at y6I; have HRL := hid (row_keep (show wI.ownsRow w0.heap.size 30 1 (.slice a6 s.ims.length cap6) s.ims.length (s.ims.map Im.va) by rw [← HV6.out]; exact HII.out.rl) (Mod.of_below (Below.refl_call wI (.cells #[.slice (some ⟨qi, 0, none⟩) (s.N k) (s.N k)] 30))) (fun _ _ => by simp)); have HBB : Hid (w0.heap.size ≤ (wI.alloc (.cells #[.slice (some ⟨qi, 0, none⟩) (s.N k) (s.N k)] 30)).heap.size) := hid (Nat.le_trans HII.out.old.size (Below.refl_call wI (.cells #[.slice (some ⟨qi, 0, none⟩) (s.N k) (s.N k)] 30)).size); clear hqi hri hbI) | (refine slice_oneV rfl _ rfl _ _ _ rfl ?_) | (refine append_oneV rfl _ _ rfl w0.heap.size s.ims.length 1 _ (.slice a6 s.ims.length cap6) (.slice (some ⟨qi, 0, none⟩) (s.N k) (s.N k)) (s.ims.map Im.va) rfl rfl rfl HRL.out (cell_of_row _ _ 0 _ _ _ (heap_alloc_new wI (.cells #[.slice (some ⟨qi, 0, none⟩) (s.N k) (s.N k)] 30))) (by omega) HBB.out ?_; intro v1 w2 hr1 hg1 ha1; rw [← HV6.out] at hg1 ha1; obtain ⟨hx2, hT⟩ := TInv.make HII.out (Below.refl_call wI (.cells #[.slice (some ⟨qi, 0, none⟩) (s.N k) (s.N k)] 30)) hg1 hr1 ha1; have y62 : w2.cell? ⟨x, 6, none⟩ = some s.vl := (cell_of_row _ _ 6 _ _ _ hx2).trans rfl; have f62 := frozen_of_row w2 x 6 _ _ hx2; have HT := hid hT; have hsh := row_slice hr1; obtain ⟨a1, cc1, hv1⟩ := hsh; subst hv1; clear hr1 hg1 ha1 hx2 hT))
  have HBP := hid (Below.refl_call w (.cells #[.int .i64 6, .int .i64 on, .int .i64 tt, .int .i64 N, .slice ad L cap] 54))
  have HW : Hid (w0.heap.size ≤ wI.heap.size) := hid HII.out.old.size
  generalize hw1 : w.alloc (.cells #[.int .i64 6, .int .i64 on, .int .i64 tt, .int .i64 N, .slice ad L cap] 54) = w1 at *
  generalize w.heap.size = o0 at *
  clear hw1 HRL HBB y62 f62 y6I HO0 y0 y1 y2 y3 y4 c1 c2
  generalize w2.setCell ⟨x, 6, none⟩ (.slice a1 (s.ims.length + 1) cc1) = wB at *
  refine wp_region_noPanic ?_
  have HOut : Hid (∀ (b : Nat) (cs : Array Value) (t : TypeId) (f : Nat × Nat), wI.heap[b]? = some (.cells cs t f) → t ≠ 50 → t ≠ 30 → b ∉ s.vl.ownBlock.toList ++ [x]) := hid (out_blk HII.out)
  refine wp_region_held_drew (S := fun w' => w'.cell? ⟨x, 3 + k, none⟩ = some (.pointer (some ⟨s.R k, 0, none⟩))) (by kernel_rfl) (HT.out.drew.cR k hk3) (fun hHeld => ?_)
  have HTd := hid HT.out.drew
  clear HT
  have HQd : Hid (wB.drew.heap[qi]? = some (.cells (SA (s.D k).S) 41 (0, 0))) := hid ((HTd.out.md.block qi (slt HRI.out) (HOut.out qi _ _ _ HRI.out (by decide) (by decide))).trans HRI.out)
  generalize wB.drew = wd at *
  refine takeVal 0 185 (.pointer (some ⟨x, 0, none⟩)) rfl (by kernel_rfl) (by kernel_rfl) (by kernel_rfl) rfl (by rfl) (fun _ _ _ h => h) hHeld (fun _ hw' => rfl) ?_
  simp only [List.setIfInBounds_toArray, List.set_cons_zero, List.set_cons_succ]
  refine takeVal 1 186 (.pointer (some ⟨x, 0, none⟩)) rfl (by kernel_rfl) (by kernel_rfl) (by kernel_rfl) rfl (by rfl) (fun _ _ _ h => h) hHeld (fun _ hw' => rfl) ?_
  simp only [List.setIfInBounds_toArray, List.set_cons_zero, List.set_cons_succ]
  refine takeVal 2 187 (.pointer (some ⟨x, 0, none⟩)) rfl (by kernel_rfl) (by kernel_rfl) (by kernel_rfl) rfl (by rfl) (fun _ _ _ h => h) hHeld (fun _ hw' => by go_simp) ?_
  simp only [List.setIfInBounds_toArray, List.set_cons_zero, List.set_cons_succ]
  refine takeVal 3 188 (.pointer (some ⟨x, 7, none⟩)) rfl (by kernel_rfl) (by kernel_rfl) (by kernel_rfl) rfl (by rfl) (fun _ _ _ h => h) hHeld (fun _ hw' => by go_simp) ?_
  simp only [List.setIfInBounds_toArray, List.set_cons_zero, List.set_cons_succ]
  refine takeVal 5 190 (.pointer (some ⟨x, 0, none⟩)) rfl (by kernel_rfl) (by kernel_rfl) (by kernel_rfl) rfl (by rfl) (fun _ _ _ h => h) hHeld (fun _ hw' => rfl) ?_
  simp only [List.setIfInBounds_toArray, List.set_cons_zero, List.set_cons_succ]
  refine takeVal 6 191 (.int .i64 (k : Int)) rfl (by kernel_rfl) (by kernel_rfl) (by kernel_rfl) rfl (by rfl) (fun _ _ _ h => h) hHeld (fun _ hw' => rfl) ?_
  simp only [List.setIfInBounds_toArray, List.set_cons_zero, List.set_cons_succ]
  refine takeVal 7 192 (.pointer (some ⟨x, 0, none⟩)) rfl (by kernel_rfl) (by kernel_rfl) (by kernel_rfl) rfl (by rfl) (fun _ _ _ h => h) hHeld (fun _ hw' => by go_simp) ?_
  simp only [List.setIfInBounds_toArray, List.set_cons_zero, List.set_cons_succ]
  refine takeVal 8 193 (.pointer (some ⟨x, 3, none⟩)) rfl (by kernel_rfl) (by kernel_rfl) (by kernel_rfl) rfl (by rfl) (fun _ _ _ h => h) hHeld (fun _ hw' => by go_simp) ?_
  simp only [List.setIfInBounds_toArray, List.set_cons_zero, List.set_cons_succ]
  refine takeVal 9 194 (.pointer (some ⟨x, 3 + k, none⟩)) rfl (by kernel_rfl) (by kernel_rfl) (by kernel_rfl) rfl (by rfl) (fun _ _ _ h => h) hHeld (fun _ hw' => by go_simp) ?_
  simp only [List.setIfInBounds_toArray, List.set_cons_zero, List.set_cons_succ]
  refine takeVal 10 195 (.pointer (some ⟨s.R k, 0, none⟩)) rfl (by kernel_rfl) (by kernel_rfl) (by kernel_rfl) rfl (by rfl) (fun _ _ _ h => h) hHeld (fun _ hw' => by go_simp) ?_
  simp only [List.setIfInBounds_toArray, List.set_cons_zero, List.set_cons_succ]
  refine step2 4 11 (by kernel_rfl) ?_ ?_
  · have c7 := HTd.out.c7
    rw [HV7.out] at c7
    refine stVal 4 189 (.slice a7 s.ims.length cap7) rfl rfl (by rfl) (by go_simp) (HTd.out.cR k hk3) ?_
    simp only [List.setIfInBounds_toArray, List.set_cons_zero, List.set_cons_succ]
    clear c7
    refine step1 11 (by kernel_rfl) ?_
    refine stCall 11 196 14 #[.pointer (some ⟨s.R k, 0, none⟩)] _ rfl rfl (by rfl) (by go_simp) (rimageQ _ (HTd.out.isq k hk3)) ?_
    rintro e wC ⟨k2, c2, X2, rfl, hk2, hrC, _, _, _, hbC⟩
    have HTc := hid (HTd.out.call hbC)
    have HK2 := hid hk2
    have HRC := hid hrC
    have HQc : Hid (wC.heap[qi]? = some (.cells (SA (s.D k).S) 41 (0, 0))) := hid ((hbC.block qi (slt HQd.out)).trans HQd.out)
    have HSZ : Hid (w1.heap.size ≤ k2) := hid (Nat.le_trans (Nat.le_trans HBI.out.size HTd.out.md.size) hk2)
    clear hrC hbC hk2
    refine ⟨_, rfl, HTc.out.cR k hk3, ?_⟩
    simp only [List.setIfInBounds_toArray, List.set_cons_zero, List.set_cons_succ]
    refine step1 12 (by kernel_rfl) ?_
    have HTn := hid (HTc.out.call (Below.refl_call wC (.cells #[.slice (some ⟨k2, 0, none⟩) (s.N k) c2] 30)))
    refine stNew 12 197 (.slice (some ⟨wC.heap.size, 0, none⟩) 1 1) (.cells #[.slice (some ⟨k2, 0, none⟩) (s.N k) c2] 30) rfl rfl (by rfl) (by simp only [execOp]; go_simp) ⟨HTn.out.cR k hk3, ?_⟩
    simp only [List.setIfInBounds_toArray, List.set_cons_zero, List.set_cons_succ]
    have HCN := hid (cell_of_row _ _ 0 _ _ _ (heap_alloc_new wC (.cells #[.slice (some ⟨k2, 0, none⟩) (s.N k) c2] 30)))
    have HOe : Hid (ImOK (wC.alloc (.cells #[.slice (some ⟨k2, 0, none⟩) (s.N k) c2] 30)) ⟨qi, k2, s.N k, c2, (s.D k).S, X2⟩) := hid ((show ImOK wC ⟨qi, k2, s.N k, c2, (s.D k).S, X2⟩ from ⟨HQc.out, HRC.out, HDk.out.len, hn1⟩).keep (Mod.of_below (Below.refl_call wC (.cells #[.slice (some ⟨k2, 0, none⟩) (s.N k) c2] 30))) (by simp) (by simp))
    have HBn : Hid (w0.heap.size ≤ (wC.alloc (.cells #[.slice (some ⟨k2, 0, none⟩) (s.N k) c2] 30)).heap.size) := hid (Nat.le_trans HW.out HTn.out.md.size)
    generalize wC.alloc (.cells #[.slice (some ⟨k2, 0, none⟩) (s.N k) c2] 30) = wN at *
    refine step1 13 (by kernel_rfl) ?_
    refine stAppV 13 198 rfl rfl (by rfl) _ _ rfl w0.heap.size s.ims.length 1 _ (.slice a7 s.ims.length cap7) (.slice (some ⟨k2, 0, none⟩) (s.N k) c2) (s.ims.map Im.vb) rfl rfl rfl (by rw [← HV7.out]; exact HTn.out.rw) HCN.out (by omega) HBn.out (fun v2 w6 hr2 hg2 ha2 => ?_)
    rw [← HV7.out] at hg2 ha2
    obtain ⟨hx6, hF⟩ := TInv.fin (e := ⟨qi, k2, s.N k, c2, (s.D k).S, X2⟩) HI0.out HBI.out HTn.out hg2 hr2 ha2 HOe.out HQI.out HSZ.out hc
    have HFin := hid hF
    have hHeld6 := desk_cR hx6 k hk3
    refine ⟨hHeld6, ?_⟩
    clear hHeld
    have hHeld := hHeld6
    clear hHeld6
    have y76 : w6.cell? ⟨x, 7, none⟩ = some s.vw := (cell_of_row _ _ 7 _ _ _ hx6).trans rfl
    have f76 := frozen_of_row w6 x 7 _ _ hx6
    obtain ⟨a8, cc8, hv8⟩ := row_slice hr2
    subst hv8
    have HSf : Hid ((w6.setCell ⟨x, 7, none⟩ (.slice a8 (s.ims.length + 1) cc8)).cell? ⟨x, 3 + k, none⟩ = some (.pointer (some ⟨s.R k, 0, none⟩))) := hid (HFin.out.cR k hk3)
    clear hr2 hg2 ha2 hF hx6
    simp only [List.setIfInBounds_toArray, List.set_cons_zero, List.set_cons_succ]
    refine takeVal 14 199 (.pointer (some ⟨x, 0, none⟩)) rfl (by kernel_rfl) (by kernel_rfl) (by kernel_rfl) rfl (by rfl) (fun _ _ _ h => h) hHeld (fun _ hw' => by go_simp) ?_
    simp only [List.setIfInBounds_toArray, List.set_cons_zero, List.set_cons_succ]
    refine takeVal 15 200 (.pointer (some ⟨x, 7, none⟩)) rfl (by kernel_rfl) (by kernel_rfl) (by kernel_rfl) rfl (by rfl) (fun _ _ _ h => h) hHeld (fun _ hw' => by go_simp) ?_
    simp only [List.setIfInBounds_toArray, List.set_cons_zero, List.set_cons_succ]
    refine step1 16 (by kernel_rfl) ?_
    refine stCell 16 (w6.setCell ⟨x, 7, none⟩ (.slice a8 (s.ims.length + 1) cc8)) rfl rfl (by rfl) (by go_simp) ⟨HSf.out, ?_⟩
    refine wpAnyH_done (by kernel_rfl) ?_ _
    refine NoPanic.normal ?_
    have HS1 := hid (row_bytes (HFin.out.im ⟨qi, k2, s.N k, c2, (s.D k).S, X2⟩ (List.mem_append_right _ (List.mem_singleton.2 rfl))).ha)
    have HS2 := hid (rowX_bytes (HFin.out.isq k hk3).row)
    have cRk := HFin.out.cR k hk3
    have qA := (HFin.out.isq k hk3).c0
    clear y76 f76 HSf hHeld
    generalize w6.setCell ⟨x, 7, none⟩ (.slice a8 (s.ims.length + 1) cc8) = wZ at *
    go_wp2_with (go_at_call 13; refine (same_any (s.D k).S (s.N k) _ _ _ _ _ HDk.out.len (by omega) HS1.out HS2.out).mono ?_; rintro e wF ⟨rfl, nF, rfl⟩)
    go_ret
    exact ⟨rfl, _, (HFin.out.drewN nF).mono (by omega)⟩
  · refine stCall 11 196 14 #[.pointer (some ⟨s.R k, 0, none⟩)] _ rfl rfl (by rfl) (by go_simp) (rimageQ _ (HTd.out.isq k hk3)) ?_
    rintro e wC ⟨k2, c2, X2, rfl, hk2, hrC, _, _, _, hbC⟩
    have HTc := hid (HTd.out.call hbC)
    have HK2 := hid hk2
    have HRC := hid hrC
    have HQc : Hid (wC.heap[qi]? = some (.cells (SA (s.D k).S) 41 (0, 0))) := hid ((hbC.block qi (slt HQd.out)).trans HQd.out)
    have HSZ : Hid (w1.heap.size ≤ k2) := hid (Nat.le_trans (Nat.le_trans HBI.out.size HTd.out.md.size) hk2)
    clear hrC hbC hk2
    refine ⟨_, rfl, HTc.out.cR k hk3, ?_⟩
    simp only [List.setIfInBounds_toArray, List.set_cons_zero, List.set_cons_succ]
    refine step2 4 12 (by kernel_rfl) ?_ ?_
    · have c7 := HTc.out.c7
      rw [HV7.out] at c7
      refine stVal 4 189 (.slice a7 s.ims.length cap7) rfl rfl (by rfl) (by go_simp) (HTc.out.cR k hk3) ?_
      simp only [List.setIfInBounds_toArray, List.set_cons_zero, List.set_cons_succ]
      clear c7
      refine step1 12 (by kernel_rfl) ?_
      have HTn := hid (HTc.out.call (Below.refl_call wC (.cells #[.slice (some ⟨k2, 0, none⟩) (s.N k) c2] 30)))
      refine stNew 12 197 (.slice (some ⟨wC.heap.size, 0, none⟩) 1 1) (.cells #[.slice (some ⟨k2, 0, none⟩) (s.N k) c2] 30) rfl rfl (by rfl) (by simp only [execOp]; go_simp) ⟨HTn.out.cR k hk3, ?_⟩
      simp only [List.setIfInBounds_toArray, List.set_cons_zero, List.set_cons_succ]
      have HCN := hid (cell_of_row _ _ 0 _ _ _ (heap_alloc_new wC (.cells #[.slice (some ⟨k2, 0, none⟩) (s.N k) c2] 30)))
      have HOe : Hid (ImOK (wC.alloc (.cells #[.slice (some ⟨k2, 0, none⟩) (s.N k) c2] 30)) ⟨qi, k2, s.N k, c2, (s.D k).S, X2⟩) := hid ((show ImOK wC ⟨qi, k2, s.N k, c2, (s.D k).S, X2⟩ from ⟨HQc.out, HRC.out, HDk.out.len, hn1⟩).keep (Mod.of_below (Below.refl_call wC (.cells #[.slice (some ⟨k2, 0, none⟩) (s.N k) c2] 30))) (by simp) (by simp))
      have HBn : Hid (w0.heap.size ≤ (wC.alloc (.cells #[.slice (some ⟨k2, 0, none⟩) (s.N k) c2] 30)).heap.size) := hid (Nat.le_trans HW.out HTn.out.md.size)
      generalize wC.alloc (.cells #[.slice (some ⟨k2, 0, none⟩) (s.N k) c2] 30) = wN at *
      refine step1 13 (by kernel_rfl) ?_
      refine stAppV 13 198 rfl rfl (by rfl) _ _ rfl w0.heap.size s.ims.length 1 _ (.slice a7 s.ims.length cap7) (.slice (some ⟨k2, 0, none⟩) (s.N k) c2) (s.ims.map Im.vb) rfl rfl rfl (by rw [← HV7.out]; exact HTn.out.rw) HCN.out (by omega) HBn.out (fun v2 w6 hr2 hg2 ha2 => ?_)
      rw [← HV7.out] at hg2 ha2
      obtain ⟨hx6, hF⟩ := TInv.fin (e := ⟨qi, k2, s.N k, c2, (s.D k).S, X2⟩) HI0.out HBI.out HTn.out hg2 hr2 ha2 HOe.out HQI.out HSZ.out hc
      have HFin := hid hF
      have hHeld6 := desk_cR hx6 k hk3
      refine ⟨hHeld6, ?_⟩
      clear hHeld
      have hHeld := hHeld6
      clear hHeld6
      have y76 : w6.cell? ⟨x, 7, none⟩ = some s.vw := (cell_of_row _ _ 7 _ _ _ hx6).trans rfl
      have f76 := frozen_of_row w6 x 7 _ _ hx6
      obtain ⟨a8, cc8, hv8⟩ := row_slice hr2
      subst hv8
      have HSf : Hid ((w6.setCell ⟨x, 7, none⟩ (.slice a8 (s.ims.length + 1) cc8)).cell? ⟨x, 3 + k, none⟩ = some (.pointer (some ⟨s.R k, 0, none⟩))) := hid (HFin.out.cR k hk3)
      clear hr2 hg2 ha2 hF hx6
      simp only [List.setIfInBounds_toArray, List.set_cons_zero, List.set_cons_succ]
      refine takeVal 14 199 (.pointer (some ⟨x, 0, none⟩)) rfl (by kernel_rfl) (by kernel_rfl) (by kernel_rfl) rfl (by rfl) (fun _ _ _ h => h) hHeld (fun _ hw' => by go_simp) ?_
      simp only [List.setIfInBounds_toArray, List.set_cons_zero, List.set_cons_succ]
      refine takeVal 15 200 (.pointer (some ⟨x, 7, none⟩)) rfl (by kernel_rfl) (by kernel_rfl) (by kernel_rfl) rfl (by rfl) (fun _ _ _ h => h) hHeld (fun _ hw' => by go_simp) ?_
      simp only [List.setIfInBounds_toArray, List.set_cons_zero, List.set_cons_succ]
      refine step1 16 (by kernel_rfl) ?_
      refine stCell 16 (w6.setCell ⟨x, 7, none⟩ (.slice a8 (s.ims.length + 1) cc8)) rfl rfl (by rfl) (by go_simp) ⟨HSf.out, ?_⟩
      refine wpAnyH_done (by kernel_rfl) ?_ _
      refine NoPanic.normal ?_
      have HS1 := hid (row_bytes (HFin.out.im ⟨qi, k2, s.N k, c2, (s.D k).S, X2⟩ (List.mem_append_right _ (List.mem_singleton.2 rfl))).ha)
      have HS2 := hid (rowX_bytes (HFin.out.isq k hk3).row)
      have cRk := HFin.out.cR k hk3
      have qA := (HFin.out.isq k hk3).c0
      clear y76 f76 HSf hHeld
      generalize w6.setCell ⟨x, 7, none⟩ (.slice a8 (s.ims.length + 1) cc8) = wZ at *
      go_wp2_with (go_at_call 13; refine (same_any (s.D k).S (s.N k) _ _ _ _ _ HDk.out.len (by omega) HS1.out HS2.out).mono ?_; rintro e wF ⟨rfl, nF, rfl⟩)
      go_ret
      exact ⟨rfl, _, (HFin.out.drewN nF).mono (by omega)⟩
    · have HTn := hid (HTc.out.call (Below.refl_call wC (.cells #[.slice (some ⟨k2, 0, none⟩) (s.N k) c2] 30)))
      refine stNew 12 197 (.slice (some ⟨wC.heap.size, 0, none⟩) 1 1) (.cells #[.slice (some ⟨k2, 0, none⟩) (s.N k) c2] 30) rfl rfl (by rfl) (by simp only [execOp]; go_simp) ⟨HTn.out.cR k hk3, ?_⟩
      simp only [List.setIfInBounds_toArray, List.set_cons_zero, List.set_cons_succ]
      refine step1 4 (by kernel_rfl) ?_
      have c7 := HTn.out.c7
      rw [HV7.out] at c7
      refine stVal 4 189 (.slice a7 s.ims.length cap7) rfl rfl (by rfl) (by go_simp) (HTn.out.cR k hk3) ?_
      simp only [List.setIfInBounds_toArray, List.set_cons_zero, List.set_cons_succ]
      clear c7
      have HCN := hid (cell_of_row _ _ 0 _ _ _ (heap_alloc_new wC (.cells #[.slice (some ⟨k2, 0, none⟩) (s.N k) c2] 30)))
      have HOe : Hid (ImOK (wC.alloc (.cells #[.slice (some ⟨k2, 0, none⟩) (s.N k) c2] 30)) ⟨qi, k2, s.N k, c2, (s.D k).S, X2⟩) := hid ((show ImOK wC ⟨qi, k2, s.N k, c2, (s.D k).S, X2⟩ from ⟨HQc.out, HRC.out, HDk.out.len, hn1⟩).keep (Mod.of_below (Below.refl_call wC (.cells #[.slice (some ⟨k2, 0, none⟩) (s.N k) c2] 30))) (by simp) (by simp))
      have HBn : Hid (w0.heap.size ≤ (wC.alloc (.cells #[.slice (some ⟨k2, 0, none⟩) (s.N k) c2] 30)).heap.size) := hid (Nat.le_trans HW.out HTn.out.md.size)
      generalize wC.alloc (.cells #[.slice (some ⟨k2, 0, none⟩) (s.N k) c2] 30) = wN at *
      refine step1 13 (by kernel_rfl) ?_
      refine stAppV 13 198 rfl rfl (by rfl) _ _ rfl w0.heap.size s.ims.length 1 _ (.slice a7 s.ims.length cap7) (.slice (some ⟨k2, 0, none⟩) (s.N k) c2) (s.ims.map Im.vb) rfl rfl rfl (by rw [← HV7.out]; exact HTn.out.rw) HCN.out (by omega) HBn.out (fun v2 w6 hr2 hg2 ha2 => ?_)
      rw [← HV7.out] at hg2 ha2
      obtain ⟨hx6, hF⟩ := TInv.fin (e := ⟨qi, k2, s.N k, c2, (s.D k).S, X2⟩) HI0.out HBI.out HTn.out hg2 hr2 ha2 HOe.out HQI.out HSZ.out hc
      have HFin := hid hF
      have hHeld6 := desk_cR hx6 k hk3
      refine ⟨hHeld6, ?_⟩
      clear hHeld
      have hHeld := hHeld6
      clear hHeld6
      have y76 : w6.cell? ⟨x, 7, none⟩ = some s.vw := (cell_of_row _ _ 7 _ _ _ hx6).trans rfl
      have f76 := frozen_of_row w6 x 7 _ _ hx6
      obtain ⟨a8, cc8, hv8⟩ := row_slice hr2
      subst hv8
      have HSf : Hid ((w6.setCell ⟨x, 7, none⟩ (.slice a8 (s.ims.length + 1) cc8)).cell? ⟨x, 3 + k, none⟩ = some (.pointer (some ⟨s.R k, 0, none⟩))) := hid (HFin.out.cR k hk3)
      clear hr2 hg2 ha2 hF hx6
      simp only [List.setIfInBounds_toArray, List.set_cons_zero, List.set_cons_succ]
      refine takeVal 14 199 (.pointer (some ⟨x, 0, none⟩)) rfl (by kernel_rfl) (by kernel_rfl) (by kernel_rfl) rfl (by rfl) (fun _ _ _ h => h) hHeld (fun _ hw' => by go_simp) ?_
      simp only [List.setIfInBounds_toArray, List.set_cons_zero, List.set_cons_succ]
      refine takeVal 15 200 (.pointer (some ⟨x, 7, none⟩)) rfl (by kernel_rfl) (by kernel_rfl) (by kernel_rfl) rfl (by rfl) (fun _ _ _ h => h) hHeld (fun _ hw' => by go_simp) ?_
      simp only [List.setIfInBounds_toArray, List.set_cons_zero, List.set_cons_succ]
      refine step1 16 (by kernel_rfl) ?_
      refine stCell 16 (w6.setCell ⟨x, 7, none⟩ (.slice a8 (s.ims.length + 1) cc8)) rfl rfl (by rfl) (by go_simp) ⟨HSf.out, ?_⟩
      refine wpAnyH_done (by kernel_rfl) ?_ _
      refine NoPanic.normal ?_
      have HS1 := hid (row_bytes (HFin.out.im ⟨qi, k2, s.N k, c2, (s.D k).S, X2⟩ (List.mem_append_right _ (List.mem_singleton.2 rfl))).ha)
      have HS2 := hid (rowX_bytes (HFin.out.isq k hk3).row)
      have cRk := HFin.out.cR k hk3
      have qA := (HFin.out.isq k hk3).c0
      clear y76 f76 HSf hHeld
      generalize w6.setCell ⟨x, 7, none⟩ (.slice a8 (s.ims.length + 1) cc8) = wZ at *
      go_wp2_with (go_at_call 13; refine (same_any (s.D k).S (s.N k) _ _ _ _ _ HDk.out.len (by omega) HS1.out HS2.out).mono ?_; rintro e wF ⟨rfl, nF, rfl⟩)
      go_ret
      exact ⟨rfl, _, (HFin.out.drewN nF).mono (by omega)⟩

end Go.Proofs.Ytcgchdcbbiahnaa
