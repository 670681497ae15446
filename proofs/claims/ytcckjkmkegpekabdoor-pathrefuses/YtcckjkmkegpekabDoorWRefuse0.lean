/-
  The walk of PathRefuses.
-/
import Derived.Test.YtcckjkmkegpekabDoorWApart
import Derived.Test.YtcckjkmkegpekabDoorWPick
import Derived.Test.YtcckjkmkegpekabDoorPA2
namespace Go.Proofs.YtcckjkmkegpekabDoor
open Go.RowKit Go.Shelf

theorem run_appL {w : World} {base m c : Nat} {ad : Option Addr} {v : Value} {l ys : List ByteArray} (ty : TypeId) (hm : m = ys.length) (hown : TOwn w base v l) (hat : TAt w ad ys) (hl : (l.length + ys.length) * 16 ≤ 140737488355328) (hbase : base ≤ w.heap.size) :
    ∃ v' w', (Builtin.append_ #[22, 22] ty #[v, .slice ad m c]).run Tryd.prog w = .ok v' w' ∧ TOwn w' base v' (l ++ ys) ∧ Chg w w' (fun k => v.ownBlock = some k) := by
  have main : ∀ a2 : Addr, ad = some a2 → (∀ (j : Nat) y, ys[j]? = some y → w.cell? (a2.add j) = some (.string y)) → ∃ v' w', (Builtin.append_ #[22, 22] ty #[v, .slice ad m c]).run Tryd.prog w = .ok v' w' ∧ TOwn w' base v' (l ++ ys) ∧ Chg w w' (fun k => v.ownBlock = some k) := by
    rintro a2 rfl h
    subst hm
    obtain ⟨i, hi, hz, hsz, hby⟩ := infoT
    obtain ⟨v', w', hr, h2, h3, _, _⟩ := run_append_own_at (P := Tryd.prog) w base 22 ty 9 i _ 1 16 Tryd.underlying22 hi hz hsz hby rfl (by decide) v l.length (l.map Value.string) hown a2 ys.length c (ys.map Value.string) (by simp) (fun j u hj => by
      rw [List.getElem?_map] at hj
      cases e : ys[j]? with
      | none => rw [e] at hj; cases hj
      | some y => rw [e] at hj; cases hj; exact h j y e) (fun u hu => by obtain ⟨y, _, rfl⟩ := List.mem_map.1 hu; rfl) (by unfold maxLen; omega) hl hbase
    refine ⟨v', w', hr, ?_, (Chg.grown h3).mono fun j _ e => e.symm⟩
    unfold TOwn
    rw [List.map_append, List.length_append]
    exact h2
  rcases hat with h | ⟨a2, e, -, h⟩
  · subst h
    cases ad with
    | none =>
      obtain ⟨b, d, rfl, hd, -⟩ := row_shape hown
      subst hm
      exact ⟨_, w, run_appZ w ty b _ d c hd, by rw [List.append_nil]; exact hown, Chg.refl _ _⟩
    | some a2 => exact main a2 rfl (fun j y hy => by cases hy)
  · exact main a2 e h

section
variable {ops : Array Oper} {Q : Exit → Act → World → Prop} {S : World → Prop} {fuel : Nat} {listed : Array Bool} {a : Act} {w : World}
theorem stAppL (i d : Nat) {o : Oper} (hop : ops[i]? = some o) (hd : o.dst = some d) (hw : Region.wanted o (yielded ops a.tmps) = true) (s x : Operand)
    (ho : o.op = .call { callee := .builtin .append, args := #[s, x], argTypes := #[22, 22] }) (base m c : Nat) (ad : Option Addr) (v : Value) (l ys : List ByteArray) (hm : m = ys.length) (hs : a.eval s = v) (hx : a.eval x = .slice ad m c)
    (hown : TOwn w base v l) (hat : TAt w ad ys) (hl : (l.length + ys.length) * 16 ≤ 140737488355328) (hbase : base ≤ w.heap.size)
    (h : ∀ v' w', TOwn w' base v' (l ++ ys) → Chg w w' (fun k => v.ownBlock = some k) →
      S w' ∧ wpAnyH Tryd.prog .any ops Q S fuel (listed.setIfInBounds i true) { a with tmps := a.tmps.setIfInBounds d v' } w') : St ops Q S fuel listed a w i := by
  obtain ⟨v', w', hr, h2, h3⟩ := run_appL o.type hm hown hat hl hbase (c := c)
  have hh := h v' w' h2 h3
  refine wpOp_step hop (fun K hK => ?_)
  rw [if_pos hw]
  unfold Oper.wp execOp
  simp only [ho, resolve, invoke, builtin, Sem.run_bind, Sem.run_pure, Result.andThen_ok, List.map_toArray, List.map_cons, List.map_nil, hs, hx, hr]
  refine hK _ _ ⟨hh.1, ?_⟩
  unfold Act.put
  rw [hd]
  exact hh.2
end

def badL : List ByteArray := [⟨#[]⟩, ⟨#[46]⟩, ⟨#[46, 46]⟩, ⟨#[97, 47, 98]⟩, ⟨#[47]⟩, ⟨#[0]⟩, ⟨#[97, 0]⟩, ⟨#[48, 49, 50, 51, 52, 53, 54, 55, 56, 57, 48, 49, 50, 51, 52, 53, 54, 55, 56, 57, 48, 49, 50, 51, 52, 53, 54, 55, 56, 57, 48, 49, 50, 51, 52, 53, 54, 55, 56, 57, 120]⟩]
theorem bad_no : ∀ K, K < 8 → okName (badL.getD K ByteArray.empty).data.toList = false := by decide
/-- The tail of a list in memory. -/
def tailA (a : Option Addr) (I d : Nat) : Option Addr := if d = I then a else a.map (·.add I)
theorem tail_at {w : World} {a : Option Addr} {xs : List ByteArray} {I d : Nat} (h : LAt w a xs) (hd : xs.length ≤ d) : TAt w (tailA a I d) (xs.drop I) := by
  by_cases e : d = I
  · left; apply List.drop_eq_nil_of_le; omega
  · rcases h with h | ⟨g, rfl, hg, h⟩
    · left; rw [h]; simp
    · right
      refine ⟨⟨g, I, none⟩, ?_, hg, fun j x hx => ?_⟩
      · unfold tailA; rw [if_neg e, Option.map_some, addr_add, Nat.zero_add]
      · rw [addr_add]; rw [List.getElem?_drop] at hx; exact h _ x hx
theorem head_at {w : World} {a : Option Addr} {xs : List ByteArray} {I : Nat} (h : LAt w a xs) : TAt w a (xs.take I) := by
  rcases h with h | ⟨g, rfl, hg, h⟩
  · left; rw [h]; simp
  · right
    refine ⟨⟨g, 0, none⟩, rfl, hg, fun j x hx => ?_⟩
    rw [addr_add, Nat.zero_add]
    rw [List.getElem?_take] at hx
    split at hx
    · exact h _ x hx
    · cases hx
theorem slice_head (a : Option Addr) (n d I : Nat) (w : World) (h : I ≤ d) : (Instr.slice 22 (.slice a n d) none (some (.int .i64 (I : Int))) none).run Tryd.prog w = .ok (.slice a I d) w := by
  rw [run_slice_h w 22 a n d Tryd.underlying22 .i64 I (by omega) (by omega)]
  have e : Tryd.prog.elem 22 = 9 := by kernel_rfl
  rw [e, Tryd.sizeOf9, Result.andThen_ok]
  unfold sliced
  cases a with
  | none => simp
  | some x => simp [Addr.add]
theorem slice_tail (a : Option Addr) (n d I : Nat) (w : World) (h : I ≤ n) : (Instr.slice 22 (.slice a n d) (some (.int .i64 (I : Int))) none none).run Tryd.prog w = .ok (.slice (tailA a I d) (n - I) (d - I)) w := by
  rw [run_slice_l w 22 a n d Tryd.underlying22 .i64 I (by omega) (by omega)]
  have e : Tryd.prog.elem 22 = 9 := by kernel_rfl
  rw [e, Tryd.sizeOf9, Result.andThen_ok]
  simp [sliced, tailA]
theorem join_bad {xs zs : List ByteArray} {u : ByteArray} (h : okName u.data.toList = false) : joinR (datas (xs ++ [u] ++ zs)) = ([], 71) := by
  unfold joinR
  rw [if_neg]
  intro h2
  have := List.all_eq_true.1 h2 u.data.toList (List.mem_map.2 ⟨u, by simp, rfl⟩)
  rw [h] at this; cases this
theorem tail_data' (p : ByteArray) : (p.extract 1 p.size).data.toList = p.data.toList.tail := tail_data p

end Go.Proofs.YtcckjkmkegpekabDoor
