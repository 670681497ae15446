/-
  Appends as steps of a statement whose order is open, and what is known of memory behind them.
-/
import Derived.Test.YtamoepninddbcaaGreatDHeld
import Derived.Laws.CopyOwn
import Derived.Deep.RegionLaw
import Derived.Deep.MidRow
import Derived.Maps.AppendAt
namespace Go.Proofs.YtamoepninddbcaaGreat.D
open Go.RowKit
-- may lack

/-- A list of bytes that lies in memory, in blocks that are there. -/
def BytesAt (w : World) (a : Option Addr) (zs : List Int) : Prop :=
  zs = [] ∨ ∃ b o, a = some ⟨b, o, none⟩ ∧ b < w.heap.size ∧ ∀ j, j < zs.length → w.cell? ⟨b, o + j, none⟩ = some (.int .u8 (zs.getD j 0))

theorem one_cells (l : List Int) : ∀ v ∈ l.map (Value.int .u8), v.oneCell' = true := by
  intro v hv
  rw [List.mem_map] at hv
  obtain ⟨x, _, rfl⟩ := hv
  rfl
theorem sz5 : (Tryz.prog.info? 5).map (·.size) = some 1 := by kernel_rfl
theorem addr_add (b o j : Nat) : (⟨b, o, none⟩ : Addr).add j = ⟨b, o + j, none⟩ := by unfold Addr.add; split <;> simp_all

section
variable {ops : Array Oper} {Q : Exit → Act → World → Prop} {S : World → Prop} {fuel : Nat} {listed : Array Bool} {a : Act} {w : World}
/-- A sector in the midst of a block is loaded. -/
theorem takeMidS (i d : Nat) (x : Operand) (g k : Nat) (c : List Int) (hc : c.length = 128) {o : Oper} (hop : ops[i]? = some o) (hs : Region.noSelect ops = true) (hf : Region.free .any ops listed i = true) (hr : (Region.ready .any ops listed).contains i = true)
    (hd : o.dst = some d) (ho : o.op = .load 47 x) (hx : a.eval x = .pointer (some ⟨g, k, none⟩)) (hw : Region.wanted o (yielded ops a.tmps) = true) (hQ : ∀ c a w, ¬ Q (.panic c) a w) (hS : S w)
    (hg : ∀ w, S w → w.rangeAt g k (c.map (Value.int .u8)))
    (h : wpAnyH Tryz.prog .any ops Q S fuel (listed.setIfInBounds i true) { a with tmps := a.tmps.setIfInBounds d (.agg (SA c)) } w) : wpAnyH Tryz.prog .any ops Q S (fuel + 1) listed a w := by
  refine takeVal i d (.agg (SA c)) hop hs hf hr hd hw hQ hS (fun w hw' => ?_) h
  unfold execOp
  simp only [ho, hx, Instr.loadAt, Instr.sureAddr, Sem.run_bind, Sem.run_pure, Result.andThen_ok, run_loadVar_mid w g k 47 (c.map (Value.int .u8)) _ (hg w hw') Tryz.underlying47 rfl (by rw [sz26, List.length_map, hc])]
  rfl
end

/-- The k-th sector of a list of bytes. -/
def secK (fl : List Int) (k : Nat) : List Int := (fl.drop (k * 128)).take 128
theorem secK_len {fl : List Int} {m k : Nat} (hl : fl.length = 128 * m) (hk : k < m) : (secK fl k).length = 128 := by
  unfold secK
  rw [List.length_take, List.length_drop]
  omega
theorem secK_range {w : World} {b o m k : Nat} {fl : List Int} (hl : fl.length = 128 * m) (hk : k < m) (h : ∀ j, j < fl.length → w.cell? ⟨b, o + j, none⟩ = some (.int .u8 (fl.getD j 0))) : w.rangeAt b (o + k * 128) ((secK fl k).map (Value.int .u8)) := by
  intro j x hj
  have hlt : j < 128 := by
    rcases Nat.lt_or_ge j 128 with c | c
    · exact c
    · rw [List.getElem?_eq_none (by rw [List.length_map, secK_len hl hk]; exact c)] at hj; cases hj
  have h1 := h (k * 128 + j) (by omega)
  rw [Nat.add_assoc, h1]
  unfold secK at hj
  simp only [List.getElem?_map, List.getElem?_take, List.getElem?_drop, if_pos hlt] at hj
  rw [List.getElem?_eq_getElem (show k * 128 + j < fl.length by omega)] at hj
  simp only [Option.map_some, Option.some.injEq] at hj
  rw [← hj, List.getD_eq_getElem?_getD, List.getElem?_eq_getElem (show k * 128 + j < fl.length by omega)]
  rfl

theorem bytes_below {w w' : World} {ad : Option Addr} {zs : List Int} (h : BytesAt w ad zs) (hb : Below w.heap.size w w') : BytesAt w' ad zs := by
  rcases h with h | ⟨b, o, rfl, hlt, hc⟩
  · exact .inl h
  · exact .inr ⟨b, o, rfl, by have := hb.size; omega, fun j hj => by rw [hb.cell (p := ⟨b, o + j, none⟩) hlt]; exact hc j hj⟩

theorem bytes_take {w : World} {ad : Option Addr} {zs : List Int} (h : BytesAt w ad zs) (n : Nat) : BytesAt w ad (zs.take n) := by
  rcases h with rfl | ⟨b, o, rfl, hlt, hc⟩
  · exact .inl (by simp)
  · refine .inr ⟨b, o, rfl, hlt, fun j hj => ?_⟩
    rw [List.length_take] at hj
    rw [hc j (by omega)]
    simp [List.getD_eq_getElem?_getD, show j < n by omega]

end Go.Proofs.YtamoepninddbcaaGreat.D

namespace Go.Proofs.YtamoepninddbcaaGreat.D
open Go.RowKit
-- may lack

/-- A list of the call's own: k cells an element, the bytes l. -/
def Own (w : World) (base : Nat) (e : TypeId) (k : Nat) (v : Value) (n : Nat) (l : List Int) : Prop := w.ownsRow base e k v n (l.map (Value.int .u8))

theorem Own.len {w : World} {base : Nat} {e : TypeId} {k : Nat} {v : Value} {n : Nat} {l : List Int} (h : Own w base e k v n l) : l.length = n * k := by
  have := h.1
  rw [List.length_map] at this
  exact this

/-- It is a slice whose bytes lie in memory. -/
theorem Own.at_ {w : World} {base : Nat} {e : TypeId} {k : Nat} {v : Value} {n : Nat} {l : List Int} (h : Own w base e k v n l) : ∃ a cap, v = .slice a n cap ∧ n ≤ cap ∧ BytesAt w a l := by
  have hl := h.len
  rcases h.2 with ⟨rfl, rfl⟩ | ⟨g, cap, cur, rfl, hg, hc, hn, hm, hs, ht⟩
  · exact ⟨none, 0, rfl, Nat.le_refl _, .inl (List.eq_nil_of_length_eq_zero (by omega))⟩
  · have hlt : g < w.heap.size := by
      rcases Nat.lt_or_ge g w.heap.size with c | c
      · exact c
      · rw [Array.getElem?_eq_none c] at hc; cases hc
    refine ⟨some ⟨g, 0, none⟩, cap, rfl, hn, .inr ⟨g, 0, rfl, hlt, fun j hj => ?_⟩⟩
    rw [Nat.zero_add, cell_of_row w g j cur e (0, 0) hc]
    have h1 : (cur.toList.take (n * k))[j]? = (l.map (Value.int .u8))[j]? := by rw [ht]
    rw [List.getElem?_take, if_pos (by omega)] at h1
    simp only [Array.getElem?_toList, List.getElem?_map, List.getElem?_eq_getElem hj, Option.map_some] at h1
    rw [h1]
    simp [hj]

/-- The empty list that a literal makes. -/
theorem Own.start {w w' : World} {base : Nat} {e : TypeId} {k g : Nat} (hg : w'.heap[g]? = some (.cells #[] e (0, 0))) (hb : base ≤ g) (_h : w.heap.size ≤ w'.heap.size) : Own w' base e k (.slice (some ⟨g, 0, none⟩) 0 0) 0 [] :=
  ⟨by simp, .inr ⟨g, 0, #[], rfl, hb, hg, Nat.le_refl _, Nat.zero_le _, by simp, by simp⟩⟩

/-- What append leaves, of bytes. -/
theorem grown_below {w0 w w' : World} {row : Option Nat} (h : Below w0.heap.size w0 w) (hg : w.grownBy w' row) (hr : ∀ k, row = some k → w0.heap.size ≤ k) : Below w0.heap.size w0 w' :=
  h.grown hg h.size hr

theorem src_of {w : World} {ad : Addr} {l : List Int} (h : BytesAt w (some ad) l) : ∀ j u, (l.map (Value.int .u8))[j]? = some u → w.cell? (ad.add j) = some u := by
  intro j u hj
  have hlt : j < l.length := by
    rcases Nat.lt_or_ge j l.length with c | c
    · exact c
    · rw [List.getElem?_eq_none (by simpa using c)] at hj; cases hj
  rcases h with rfl | ⟨b, o, he, _, hc⟩
  · simp at hlt
  · cases he
    rw [addr_add, hc j hlt]
    simp [hlt] at hj
    simp [hlt, hj]

/-- append of sectors onto a list of the call's own. -/
theorem append_secs {ops : Array Oper} {rest : List Oper} {o : Oper} {a : Act} {w : World} {Q : Exit → Act → World → Prop} (hgd : o.guard = none) (s x : Operand)
    (ho : o.op = .call { callee := .builtin .append, args := #[s, x], argTypes := #[74, 74] }) (base n m c : Nat) (v : Value) (l new : List Int) (ad : Addr) (hs : a.eval s = v) (hx : a.eval x = .slice (some ad) m c)
    (hown : Own w base 47 128 v n l) (hl : new.length = m * 128) (hat : BytesAt w (some ad) new) (hb : (n + m) * 128 ≤ 140737488355328) (hbase : base ≤ w.heap.size)
    (h : ∀ v' w', Own w' base 47 128 v' (n + m) (l ++ new) → w.grownBy w' v.ownBlock → wpList Tryz.prog ops Q rest (a.put o.dst v') w') : wpList Tryz.prog ops Q (o :: rest) a w := by
  obtain ⟨i, hi, hz, hsz, hby⟩ := infoS
  refine wpList_append_own w hgd s x 74 ho base 47 i _ 128 128 Tryz.underlying74 hi hz hsz hby (by rw [show Value.cells (.agg (SA Zs)) = SA Zs from rfl, SA_size, Zs_len]) (by decide) v n (l.map (Value.int .u8)) hs hown ad m c (new.map (Value.int .u8)) hx (by rw [List.length_map, hl]) (src_of hat) (one_cells new) (by unfold maxLen; omega) hb hbase ?_
  intro v' w' h1 h2 _
  refine h v' w' ?_ h2
  unfold Own
  rw [List.map_append]
  exact h1

/-- A fact on memory may be made stronger on the way through a statement whose order is open. -/
theorem wpAnyH_more {ops : Array Oper} {Q : Exit → Act → World → Prop} {S S' : World → Prop} (hS : ∀ w, S' w → S w) : ∀ (fuel : Nat) (listed : Array Bool) (a : Act) (w : World), wpAnyH Tryz.prog .any ops Q S' fuel listed a w → wpAnyH Tryz.prog .any ops Q S fuel listed a w
  | 0, _, _, _, h => h
  | fuel + 1, _, _, _, h => ⟨h.1, fun i hi => wpOp_mono (fun a' w' hh => ⟨hS w' hh.1, wpAnyH_more hS fuel _ a' w' hh.2⟩) (h.2 i hi)⟩

end Go.Proofs.YtamoepninddbcaaGreat.D

namespace Go.Proofs.YtamoepninddbcaaGreat.D
open Go.RowKit
-- may lack

section
variable {ops : Array Oper} {Q : Exit → Act → World → Prop} {S : World → Prop} {fuel : Nat} {listed : Array Bool} {a : Act} {w : World}
theorem stVal (i d : Nat) (v : Value) {o : Oper} (hop : ops[i]? = some o) (hd : o.dst = some d) (hw : Region.wanted o (yielded ops a.tmps) = true)
    (hrun : (execOp a.eval o).run Tryz.prog w = .ok (.value v) w) (hS : S w)
    (h : wpAnyH Tryz.prog .any ops Q S fuel (listed.setIfInBounds i true) { a with tmps := a.tmps.setIfInBounds d v } w) : St ops Q S fuel listed a w i := by
  refine wpOp_step hop (fun K hK => ?_)
  rw [if_pos hw]
  unfold Oper.wp
  rw [hrun]
  refine hK _ _ ⟨hS, ?_⟩
  unfold Act.put
  rw [hd]
  exact h
end

theorem row_bytes {w : World} {g : Nat} {t : TypeId} {l : List Int} (h : w.heap[g]? = some (.cells (SA l) t (0, 0))) : BytesAt w (some ⟨g, 0, none⟩) l := by
  have hlt : g < w.heap.size := by
    rcases Nat.lt_or_ge g w.heap.size with k | k
    · exact k
    · rw [Array.getElem?_eq_none k] at h; cases h
  exact .inr ⟨g, 0, rfl, hlt, fun j hj => by rw [Nat.zero_add]; exact sec_cell h j hj⟩
theorem HB.more {w0 w : World} {bl : List (Nat × Obj)} {g : Nat} {o : Obj} (h : HB w0 bl w) (hg : w.heap[g]? = some o) : HB w0 ((g, o) :: bl) w := by
  have hlt : g < w.heap.size := by
    rcases Nat.lt_or_ge g w.heap.size with k | k
    · exact k
    · rw [Array.getElem?_eq_none k] at hg; cases hg
  refine ⟨fun x hx => ?_, fun x hx => ?_, h.old⟩
  · rcases List.mem_cons.1 hx with rfl | hx
    · exact hg
    · exact h.at_ x hx
  · rcases List.mem_cons.1 hx with rfl | hx
    · exact hlt
    · exact h.low x hx

theorem bytes_drop0 {w : World} {zs : List Int} (h : BytesAt w none zs) (T : Nat) : BytesAt w none (zs.drop T) := by
  rcases h with rfl | ⟨b, o, h, _⟩
  · exact .inl (by simp)
  · cases h
theorem bytes_drop1 {w : World} {zs : List Int} {x : Addr} (h : BytesAt w (some x) zs) (T : Nat) : BytesAt w (some (x.add T)) (zs.drop T) := by
  rcases h with rfl | ⟨b, o, h, hlt, hc⟩
  · exact .inl (by simp)
  · cases h
    refine .inr ⟨b, o + T, by rw [addr_add], hlt, fun j hj => ?_⟩
    rw [List.length_drop] at hj
    rw [Nat.add_assoc, hc (T + j) (by omega)]
    simp [List.getD_eq_getElem?_getD, List.getElem?_drop]
theorem HB.grown {w0 w w' : World} {bl : List (Nat × Obj)} {row : Option Nat} (h : HB w0 bl w) (hg : w.grownBy w' row) (hn : ∀ x, x ∈ bl → some x.1 ≠ row) (hr : ∀ k, row = some k → w0.heap.size ≤ k) : HB w0 bl w' :=
  ⟨fun x hx => by rw [hg.block x.1 (h.low x hx) (hn x hx)]; exact h.at_ x hx, fun x hx => Nat.lt_of_lt_of_le (h.low x hx) hg.size, h.old.grown hg h.old.size hr⟩

theorem HB.append {w0 w w' : World} {bl : List (Nat × Obj)} {base : Nat} {e : TypeId} {k n : Nat} {v : Value} {l : List Int} (h : HB w0 bl w) (ho : Own w base e k v n l) (hg : w.grownBy w' v.ownBlock) (hb : ∀ x, x ∈ bl → x.1 < base) (hB : w0.heap.size ≤ base) : HB w0 bl w' := by
  refine h.grown hg (fun x hx => ?_) (fun k hk => ?_)
  · have := hb x hx
    rcases ho.2 with ⟨rfl, _⟩ | ⟨g, cap, cur, rfl, hge, _⟩
    · simp [Value.ownBlock]
    · simp [Value.ownBlock]; omega
  · rcases ho.2 with ⟨rfl, _⟩ | ⟨g, cap, cur, rfl, hge, _⟩
    · simp [Value.ownBlock] at hk
    · simp [Value.ownBlock] at hk; omega
/-- A list's own block is none of those that are known. -/
def Apart (w0 : World) (bl : List (Nat × Obj)) (v : Value) : Prop := ∀ k, v.ownBlock = some k → w0.heap.size ≤ k ∧ ∀ x, x ∈ bl → x.1 ≠ k
theorem Apart.start {w0 : World} {g0 g1 : Nat} {o1 o2 : Obj} {m n : Nat} (d0 : w0.heap.size < g0) (d1 : g1 ≠ g0) : Apart w0 [(g1, o1), (w0.heap.size, o2)] (.slice (some ⟨g0, 0, none⟩) m n) := by
  intro k hk
  have hk : g0 = k := by simpa [Value.ownBlock] using hk
  subst hk
  refine ⟨Nat.le_of_lt d0, fun x hx => ?_⟩
  rcases List.mem_cons.1 hx with h | h
  · rw [h]; exact d1
  · rw [List.mem_singleton.1 h]; exact Nat.ne_of_lt d0
theorem Apart.next {w0 w : World} {bl : List (Nat × Obj)} {v v' : Value} (h : Apart w0 bl v) (hB : HB w0 bl w) (hat : v'.ownBlock = v.ownBlock ∨ v'.ownBlock = some w.heap.size) : Apart w0 bl v' := by
  intro k hk
  rcases hat with e | e
  · exact h k (e.symm.trans hk)
  · have hk : w.heap.size = k := Option.some.inj (e.symm.trans hk)
    subst hk
    exact ⟨hB.old.size, fun x hx => Nat.ne_of_lt (hB.low x hx)⟩
theorem HB.app {w0 w w' : World} {bl : List (Nat × Obj)} {v : Value} (h : HB w0 bl w) (hg : w.grownBy w' v.ownBlock) (hn : Apart w0 bl v) : HB w0 bl w' :=
  h.grown hg (fun x hx e => (hn x.1 e.symm).2 x hx rfl) (fun k hk => (hn k hk).1)
theorem Own.call {w w' : World} {base : Nat} {e : TypeId} {k n : Nat} {v : Value} {l : List Int} (h : Own w base e k v n l) (hb : Below w.heap.size w w') : Own w' base e k v n l := by
  refine ⟨h.1, ?_⟩
  rcases h.2 with h | ⟨g, cap, cur, rfl, hge, hc, hr⟩
  · exact .inl h
  · have hlt : g < w.heap.size := by
      rcases Nat.lt_or_ge g w.heap.size with k | k
      · exact k
      · rw [Array.getElem?_eq_none k] at hc; cases hc
    exact .inr ⟨g, cap, cur, rfl, hge, by rw [hb.block g hlt]; exact hc, hr⟩
section
variable {ops : Array Oper} {Q : Exit → Act → World → Prop} {S : World → Prop} {fuel : Nat} {listed : Array Bool} {a : Act} {w : World}
/-- Something new is made. -/
theorem stNew (i d : Nat) (v : Value) (ob : Obj) {o : Oper} (hop : ops[i]? = some o) (hd : o.dst = some d) (hw : Region.wanted o (yielded ops a.tmps) = true)
    (hrun : (execOp a.eval o).run Tryz.prog w = .ok (.value v) (w.alloc ob))
    (h : S (w.alloc ob) ∧ wpAnyH Tryz.prog .any ops Q S fuel (listed.setIfInBounds i true) { a with tmps := a.tmps.setIfInBounds d v } (w.alloc ob)) : St ops Q S fuel listed a w i := by
  refine wpOp_step hop (fun K hK => ?_)
  rw [if_pos hw]
  unfold Oper.wp
  rw [hrun]
  refine hK _ _ ⟨h.1, ?_⟩
  unfold Act.put
  rw [hd]
  exact h.2
theorem stNewB (i d : Nat) {o : Oper} (hop : ops[i]? = some o) (hd : o.dst = some d) (hw : Region.wanted o (yielded ops a.tmps) = true)
    (hrun : (execOp a.eval o).run Tryz.prog w = .ok (.value (.slice (some ⟨w.heap.size, 0, none⟩) 0 0)) (w.alloc (.cells #[] 5)))
    (h : S (w.alloc (.cells #[] 5)) ∧ wpAnyH Tryz.prog .any ops Q S fuel (listed.setIfInBounds i true) { a with tmps := a.tmps.setIfInBounds d (.slice (some ⟨w.heap.size, 0, none⟩) 0 0) } (w.alloc (.cells #[] 5))) : St ops Q S fuel listed a w i :=
  stNew i d _ _ hop hd hw hrun h
theorem stNewX (i d : Nat) {o : Oper} (hop : ops[i]? = some o) (hd : o.dst = some d) (hw : Region.wanted o (yielded ops a.tmps) = true)
    (hrun : (execOp a.eval o).run Tryz.prog w = .ok (.value (.slice (some ⟨w.heap.size, 0, none⟩) 0 0)) (w.alloc (.cells #[] 5)))
    (h : ∀ g wN, g = w.heap.size → g < wN.heap.size → wN.heap[g]? = some (.cells #[] 5 (0, 0)) → (∀ w0 bl, HB w0 bl w → HB w0 bl wN) →
      S wN ∧ wpAnyH Tryz.prog .any ops Q S fuel (listed.setIfInBounds i true) { a with tmps := a.tmps.setIfInBounds d (.slice (some ⟨g, 0, none⟩) 0 0) } wN) : St ops Q S fuel listed a w i :=
  stNewB i d hop hd hw hrun (h _ _ rfl (by simp) (heap_alloc_new _ _) (fun _ _ hh => (hh.alloc _).tail))
end

end Go.Proofs.YtamoepninddbcaaGreat.D
