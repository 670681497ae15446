/-
  The iterator over pointers that are not 0.
-/
import Derived.Test.YtjlhmojofjkkdabRF
namespace Go.Proofs.Ytjlhmojofjkkdab
open Go.RowKit Go.Shelf

attribute [local go_sem] Oper.semAt_some

def nz (ns : List Int) (j : Nat) : Bool := decide (ns.getD j 0 ≠ 0)
/-- The places of what is not 0, among the first k. -/
def plc (ns : List Int) (k : Nat) : List Nat := (List.range k).filter (nz ns)
def thereL (ns : List Int) : List (Nat × Int) := (plc ns ns.length).map fun j => (j, ns.getD j 0)
theorem plc_succ (ns : List Int) (k : Nat) : plc ns (k + 1) = plc ns k ++ (if nz ns k then [k] else []) := by
  unfold plc
  rw [List.range_succ, List.filter_append]
  congr 1
  by_cases h : nz ns k <;> simp [h]
theorem plc_get (ns : List Int) : ∀ (N k : Nat), k < N → nz ns k = true → (plc ns N)[(plc ns k).length]? = some k
  | 0, k, h, _ => by omega
  | N + 1, k, h, hk => by
    rw [plc_succ]
    rcases Nat.lt_or_ge k N with e | e
    · have ih := plc_get ns N k e hk
      rw [List.getElem?_append_left (List.getElem?_eq_some_iff.1 ih).1]
      exact ih
    · obtain rfl : k = N := by omega
      rw [List.getElem?_append_right (Nat.le_refl _), if_pos hk]
      simp
theorem there_get (ns : List Int) (k : Nat) (n : Int) (h : ns[k]? = some n) (hn : n ≠ 0) : (thereL ns)[(plc ns k).length]? = some (k, n) := by
  have hk : k < ns.length := (List.getElem?_eq_some_iff.1 h).1
  have hg : ns.getD k 0 = n := by rw [List.getD_eq_getElem?_getD, h]; rfl
  unfold thereL
  rw [List.getElem?_map, plc_get ns ns.length k hk (by unfold nz; rw [hg]; exact decide_eq_true hn), Option.map_some, hg]
theorem plc_up {ns : List Int} {k : Nat} {n : Int} (h : ns[k]? = some n) : (plc ns (k + 1)).length = (plc ns k).length + (if n = 0 then 0 else 1) := by
  have hg : ns.getD k 0 = n := by rw [List.getD_eq_getElem?_getD, h]; rfl
  rw [plc_succ, List.length_append]
  congr 1
  by_cases e : n = 0
  · have : nz ns k = false := by simp only [nz, hg, e]; decide
    simp [this, e]
  · have : nz ns k = true := by simp only [nz, hg]; exact decide_eq_true e
    simp [this, e]
theorem there_len (ns : List Int) : (thereL ns).length = (plc ns ns.length).length := by simp [thereL]

def encT (x : Nat × Int) : Array Value := #[.int .i64 (x.1 : Int), .int .i64 x.2]
def IntsIn (W : World) (g o : Nat) (ns : List Int) : Prop := ∀ (j : Nat) (n : Int), ns[j]? = some n → W.cell? ⟨g, o + j, none⟩ = some (.int .i64 n)
theorem IntsIn.kept {W W' : World} {g o : Nat} {ns : List Int} (h : IntsIn W g o ns) (hk : W'.heap[g]? = W.heap[g]?) : IntsIn W' g o ns := fun j n hj => by
  have := h j n hj
  unfold World.cell? at this ⊢
  rw [hk]; exact this

set_option maxRecDepth 100000 in
set_option maxHeartbeats 1000000 in
/-- there's function: it hands on what is not 0. -/
theorem there_iter (bp g o c : Nat) (ns : List Int) (hns : ns.length ≤ 1000) :
    Iter Try.prog 24 #[.pointer (some ⟨bp, 0, none⟩)] (fun x gs _ => gs = encT x) (fun W W' => W'.heap[g]? = W.heap[g]?) (thereL ns)
      (fun W => W.cell? ⟨bp, 0, none⟩ = some (.slice (some ⟨g, o, none⟩) ns.length c) ∧ IntsIn W g o ns) := by
  intro n l J Jx W hS hl hJ hJx hY h0
  obtain ⟨hc, hin⟩ := hS
  obtain ⟨N, hN⟩ : ∃ N, N = ns.length := ⟨_, rfl⟩
  rw [← hN] at hc
  refine callsIn_of_wp Try.func24 rfl trivial ?_ rfl
  simp only [Try.ntmps24, List.size_toArray, List.length_cons, List.length_nil, Nat.reduceAdd, Nat.reduceSub, Array.replicate_succ, Array.replicate_zero, List.push_toArray, List.append_toArray, List.nil_append, List.cons_append]
  gi_wp2
  gi_loopw [7] (fun i wr => ∃ (k : Nat), k ≤ N ∧ i = .int .i64 k ∧ Hid (IntsIn wr g o ns) ∧ Hid (J (plc ns k).length wr)) (fun i _ => N - (intOf i).toNat)
  case atStart => exact ⟨0, by omega, rfl, hin, h0⟩
  case round =>
    obtain ⟨k, hk, rfl, HI, HJ⟩ := hrel
    by_cases hlt : k < N
    · obtain ⟨x, hx⟩ : ∃ x, ns[k]? = some x := ⟨_, List.getElem?_eq_getElem (by omega)⟩
      have hcx := HI.out k x hx
      have j0 : (0 : Int) ≤ (k : Int) := by omega
      have j1 : (k : Int) < (N : Int) := by omega
      by_cases hx0 : x = 0
      · subst hx0
        gi_wp2
        refine ⟨fun _ h => (by cases h), ?_⟩
        gi_wp2
        go_roundw
        case rel => exact ⟨k + 1, by omega, by go_num, HI, by rw [plc_up hx]; exact HJ⟩
        case measure => simp [intOf]; omega
      · obtain ⟨fn, tmps, assign, body, hy, hR⟩ := hY _ _ _ wr (n - 1) (there_get ns k x hx hx0) rfl HJ.out
        unfold encT at hy
        gi_wp2
        refine ⟨wdep, hR.mono ?_⟩
        rintro e W3 ⟨_, ⟨rfl, hJ3, hk3⟩ | ⟨rfl, hJx3⟩⟩
        · gi_wp2
          go_roundw
          case rel => exact ⟨k + 1, by omega, by go_num, HI.out.kept hk3, by rw [plc_up hx, if_neg hx0]; exact hJ3⟩
          case measure => simp [intOf]; omega
        · gi_wp2
          refine bodyPost_ret (results_none rfl _ _ _) rfl ?_
          exact ⟨⟨_, rfl⟩, .inr hJx3⟩
    · obtain rfl : k = N := by omega
      have hge : ¬ ((k : Int) < (k : Int)) := by omega
      gi_wp2
      go_end0
      exact ⟨⟨_, rfl⟩, .inl (by rw [there_len, ← hN]; exact HJ.out)⟩

end Go.Proofs.Ytjlhmojofjkkdab
