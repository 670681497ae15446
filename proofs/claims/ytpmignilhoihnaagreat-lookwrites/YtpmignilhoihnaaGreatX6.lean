/-
  slices.Concat of three lists of numbers.
-/
import Derived.Test.YtpmignilhoihnaaGreatX1
import Derived.Test.YtpmignilhoihnaaGreatShelfG
namespace Go.Proofs.YtpmignilhoihnaaGreat
open Go.RowKit Go.Shelf

section
variable {ops : Array Oper} {rest : List Oper} {o : Oper} {a : Act} {Q : Exit → Act → World → Prop} {w : World}
theorem run_app_nil {B : Nat} {v : Value} {l : List Int} (t ty : TypeId) (ht : Tryz.prog.underlying t = some (.slice 3)) (h : IOwn w B v l) : (Builtin.append_ #[t, t] ty #[v, .slice none 0 0]).run Tryz.prog w = .ok v w := by
  obtain ⟨i, hi, hz, hsz, hby⟩ := infoI
  rcases h.2 with ⟨rfl, _⟩ | ⟨g, cap, cur, rfl, hb, hg, hc, _⟩
  · simp [Builtin.append_, run_underlying ht, sizeOf, typeInfo, hi, Builtin.lenOf, Builtin.firstCells]
  · simp [Builtin.append_, run_underlying ht, sizeOf, typeInfo, hi, Builtin.lenOf, Builtin.firstCells, storeCells, hc]
/-- append of a list of numbers, into a slot. -/
theorem wp_appLs (hg : o.guard = none) (s x : Operand) (hop : o.op = .call { callee := .builtin .append, args := #[s, x], argTypes := #[24, 24] }) (B B' : Nat) (v u : Value) (l m : List Int) (hs : a.eval s = v) (hx : a.eval x = u)
    (hown : IOwn w B v l) (hat : IOwn w B' u m) (hl : l.length ≤ 1000000) (hm : m.length ≤ 1000000) (hB : B ≤ w.heap.size)
    (hK : ∀ v' w', IOwn w' B v' (l ++ m) → Chg w w' (fun k => v.ownBlock = some k) → wpList Tryz.prog ops Q rest (a.put o.dst v') w') : wpList Tryz.prog ops Q (o :: rest) a w := by
  obtain ⟨i, hi, hz, hsz, hby⟩ := infoI
  rcases hat.2 with ⟨rfl, e⟩ | ⟨g, cap, cur, rfl, hb, hgg, hc, hr⟩
  · obtain rfl : m = [] := List.eq_nil_of_length_eq_zero e
    have hrun := run_app_nil (w := w) 24 o.type Tryz.underlying24 hown
    refine wpList_plain hg fun K' hK' => ?_
    unfold Oper.wp execOp
    simp only [hop, resolve, invoke, builtin, Sem.run_bind, Sem.run_pure, Result.andThen_ok, List.map_toArray, List.map_cons, List.map_nil, hs, hx, hrun]
    exact hK' _ _ (hK v w (by rw [List.append_nil]; exact hown) (Chg.refl _ _))
  · refine wpList_append_own_at w hg s x 24 hop B 3 i _ 1 8 Tryz.underlying24 hi hz hsz hby rfl (by decide) v l.length (l.map (Value.int .i64)) hs hown ⟨g, 0, none⟩ m.length cap (m.map (Value.int .i64)) hx (by simp) (fun j u hj => World.ownsRow.cells hat (g := g) rfl j u hj) (fun u hu => by obtain ⟨y, _, rfl⟩ := List.mem_map.1 hu; rfl) (by unfold maxLen; omega) (by omega) hB ?_
    intro v' w' h1 h2 _ _
    refine hK v' w' ?_ ((Chg.grown h2).mono fun j _ e => e.symm)
    unfold IOwn
    rw [List.map_append, List.length_append]
    exact h1
end

theorem grow_any (n : Nat) (hn : n ≤ 1000000) (w : World) : Calls Tryz.prog 122 #[.slice none 0 0, .int .i64 n] w fun e w' => ∃ v, e = .returned v ∧ IOwn w' w.heap.size v [] ∧ Chg w w' No := by
  rcases Nat.eq_zero_or_pos n with rfl | hp
  · refine (Any8.slices_Grow_room (ρ := layGrow_ren) layGrow none 0 0 0 w (by omega) (by omega) (by omega) (by omega)).mono ?_
    rintro e w' ⟨rfl, rfl⟩
    exact ⟨_, rfl, World.ownsRow_nil _ _ _ _, Chg.refl _ _⟩
  · obtain ⟨i, hi, hz, hsz, hby⟩ := infoI
    refine (Any8.slices_Grow_grow (ρ := layGrow_ren) layGrow i _ hi hz (by omega) none 0 0 n [] w (by omega) (by omega) (by rw [hby]; omega) (by omega) (by simp) (fun _ => rfl) (fun a ha => by cases ha)).mono ?_
    rintro e w' ⟨rfl, rfl⟩
    have hge := grownCap_ge w (0 + n) 0 (layGrow_ren.t 25)
    have hle := grownCap_le_maxLen w (0 + n) 0 (layGrow_ren.t 25) (by unfold maxLen; omega)
    refine ⟨_, rfl, ⟨rfl, .inr ⟨w.heap.size, _, _, rfl, Nat.le_refl _, heap_alloc_new w.drew _, Nat.zero_le _, hle, ?_, ?_⟩⟩, (Chg.refl w No).drew.trans (Chg.alloc _ _ No) (fun _ _ e => e) (fun _ _ e => e)⟩
    · simp only [Array.size_append, List.size_toArray, List.length_nil, size_zeroCells]
      show 0 + (0 + n - 0) * 1 + _ * 1 = _ * 1
      omega
    · simp

/-- So many lists, one behind the other. -/
def catK (xs : Nat → List Int) : Nat → List Int
  | 0 => []
  | k + 1 => catK xs k ++ xs k
theorem catK_le {xs : Nat → List Int} {b : Nat} (h : ∀ k, (xs k).length ≤ b) : ∀ k, (catK xs k).length ≤ k * b
  | 0 => by simp [catK]
  | k + 1 => by
    have := catK_le h k
    have := h k
    rw [catK, List.length_append, Nat.succ_mul]
    omega

set_option maxRecDepth 100000 in
set_option maxHeartbeats 1000000 in
theorem concat_any (g : Nat) (B : Nat) (vs : Nat → Value) (xs : Nat → List Int) (w : World) (hc : ∀ k, k < 3 → w.cell? ⟨g, k, none⟩ = some (vs k)) (hg : g < w.heap.size) (ho : ∀ k, k < 3 → IOwn w B (vs k) (xs k)) (hl : ∀ k, (xs k).length ≤ 5000) :
    Calls Tryz.prog 89 #[.slice (some ⟨g, 0, none⟩) 3 3] w fun e w' => ∃ v, e = .returned v ∧ IOwn w' w.heap.size v (catK xs 3) ∧ Chg w w' No := by
  have HC := hid hc
  have HO := hid ho
  have HL := hid hl
  have HCL := hid (fun k => catK_le hl k)
  have HG := hid hg
  clear hc ho hl hg
  go_enter Tryz.func89, Tryz.ntmps89
  go_wp2_with fail
  go_loopw [3, 11] (fun z i wr => ∃ k : Nat, k ≤ 3 ∧ i = .int .i64 k ∧ z = .int .i64 ((catK xs k).length : Nat) ∧ w = wr) (fun _ i _ => 3 - (intOf i).toNat)
  case atStart => exact ⟨0, by omega, rfl, rfl, rfl⟩
  case round =>
    obtain ⟨k, hk, rfl, rfl, rfl⟩ := hrel
    have hcl := HCL.out k
    by_cases hlt : k < 3
    · have i0 : (0 : Int) ≤ (k : Int) := by omega
      have i1 : (k : Int) < 3 := by omega
      have c0 := HC.out k hlt
      have hlk := HL.out k
      obtain ⟨a', c', he, _⟩ := (HO.out k hlt).lat
      rw [he] at c0
      have HS : Hid ((catK xs (k + 1)).length = (catK xs k).length + (xs k).length) := hid (by rw [catK, List.length_append])
      generalize (catK xs k).length = n at *
      generalize (xs k).length = m at *
      clear he
      have i2 : ¬ ((n : Int) + (m : Int) < 0) := by omega
      go_wp2_with fail
      exact ⟨⟨k + 1, by omega, by go_num, by rw [HS.out]; go_num, trivial⟩, by simp [intOf]; omega⟩
    · have i1 : ¬ (k : Int) < 3 := by omega
      obtain rfl : k = 3 := by omega
      have HGr := grow_any (catK xs 3).length (by omega) w
      generalize (catK xs 3).length = n at *
      go_wp2_with (first
        | (go_at_call 122; go_must (refine HGr.mono ?_; rintro e w1 ⟨v1, rfl, hI1, hc1⟩))
        | fail)
      have HI1 := hid hI1
      have HC1 := hid hc1
      clear hI1 hc1 HGr
      go_loopw [6, 27] (fun v i wx => ∃ (k : Nat) (vv : Value), vv = v ∧ k ≤ 3 ∧ i = .int .i64 k ∧ Hid (IOwn wx w.heap.size vv (catK xs k)) ∧ Hid (Chg w wx No)) (fun _ i _ => 3 - (intOf i).toNat)
      case atStart => exact ⟨0, _, rfl, by omega, rfl, HI1, HC1⟩
      case round =>
        obtain ⟨k, vv, rfl, hk, rfl, HI, HCw⟩ := hrel
        by_cases hlt : k < 3
        · have i0 : (0 : Int) ≤ (k : Int) := by omega
          have i1 : (k : Int) < 3 := by omega
          have c0 := cell_keep (HC.out k hlt) HCw.out HG.out (fun e => e)
          have HOk := hid ((HO.out k hlt).keep HCw.out (fun _ _ e => e))
          have HLk : Hid ((xs k).length ≤ 1000000) := hid (by have := HL.out k; omega)
          have HLc : Hid ((catK xs k).length ≤ 1000000) := hid (by have := HCL.out k; omega)
          have HZ : Hid (w.heap.size ≤ wr.heap.size) := hid HCw.out.size
          obtain ⟨uk, huk⟩ : ∃ y, y = vs k := ⟨_, rfl⟩
          rw [← huk] at c0 HOk
          clear huk
          go_wp2_with (first
            | (at_builtin; go_must (refine wp_appLs rfl _ _ rfl w.heap.size B vv uk _ _ rfl rfl HI.out HOk.out HLc.out HLk.out HZ.out ?_; intro v' w7 hI7 hc7))
            | fail)
          have hch : Chg w w7 No := HCw.out.trans hc7 (fun _ _ e => e) (fun j hj e => by have := (HI.out.blk e).1; omega)
          exact ⟨⟨k + 1, v', rfl, by omega, by go_num, hid hI7, hid hch⟩, by simp [intOf]; omega⟩
        · have i1 : ¬ (k : Int) < 3 := by omega
          obtain rfl : k = 3 := by omega
          go_wp2_with fail
          go_ret
          exact ⟨_, rfl, HI.out, HCw.out⟩

end Go.Proofs.YtpmignilhoihnaaGreat
