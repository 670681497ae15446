/-
 Questions, as they are built.
-/
import Derived.Test.YtmgfilacepnjlaaGreatDoorVM
import Derived.Maps.AppendAt
namespace Go.Proofs.YtmgfilacepnjlaaGreatDoor
open Go.RowKit Go.Shelf

theorem run_append_keep {P : Program} (w : World) (base : Nat) (t ty e : TypeId) (i : TypeInfo) (z : Value) (size bytes : Nat) (ht : P.underlying t = some (.slice e)) (hi : P.info? e = some i) (hz : i.zero = some z)
  (hsize : i.size = size) (hby : i.bytes = bytes) (hzs : z.cells.size = size) (hsz : 0 < size)
  (v : Value) (n : Nat) (xs : List Value) (hown : w.ownsRow base e size v n xs)
  (a : Addr) (m c : Nat) (news : List Value) (hl : news.length = m * size) (hnews : ∀ j u, news[j]? = some u → w.cell? (a.add j) = some u) (h1 : ∀ u ∈ news, u.oneCell' = true)
  (hm : 0 < m) (h63 : n + m ≤ maxLen) (hbytes : (n + m) * bytes ≤ 140737488355328) (hbase : base ≤ w.heap.size) :
  ∃ g cap w', (Builtin.append_ #[t, t] ty #[v, .slice (some a) m c]).run P w = .ok (.slice (some ⟨g, 0, none⟩) (n + m) cap) w' ∧ w'.ownsRow base e size (.slice (some ⟨g, 0, none⟩) (n + m) cap) (n + m) (xs ++ news) ∧
   ((v = .slice (some ⟨g, 0, none⟩) n cap ∧ w.grownBy w' (some g)) ∨ (g = w.heap.size ∧ w.grownBy w' none)) ∧ w.grownBy w' v.ownBlock := by
 obtain ⟨v', w', hr, h2, h3, _, h5⟩ := run_append_own_at (P := P) w base t ty e i z size bytes ht hi hz hsize hby hzs hsz v n xs hown a m c news hl hnews h1 h63 hbytes hbase
 obtain ⟨g', cap', rfl⟩ : ∃ g' cap', v' = .slice (some ⟨g', 0, none⟩) (n + m) cap' := by
  rcases h2.2 with ⟨_, h0⟩ | ⟨g, cap, cur, e, _⟩
  ·omega
  ·exact ⟨g, cap, e⟩
 rcases hown.2 with ⟨hv, hn⟩ | ⟨g, cap, cur, rfl, hbg, hg, hnc, hcm, hcs, htake⟩
 ·refine ⟨g', cap', w', hr, h2, .inr ⟨?_, ?_⟩, h3⟩
  ·rw [hv] at h5
   rcases h5 with h5 | h5
   ·cases h5
   ·simpa [Value.ownBlock] using h5
  ·rw [hv] at h3; exact h3
 ·by_cases hroom : n + m ≤ cap
  ·obtain ⟨w2, hr2, h4, h6⟩ := run_append_fits (P := P) w base t ty e i size ht hi hsize g n cap xs hown a m c news hl hnews h1 hroom
   exact ⟨g, cap, w2, hr2, h4, .inl ⟨rfl, h6⟩, h6⟩
  ·subst hsize
   subst hby
   have hsmall : n + m ≤ 9223372036854775807 := by simp only [maxLen] at h63; omega
   have holds : ∀ j u, xs[j]? = some u → w.cell? ((⟨g, 0, none⟩ : Addr).add j) = some u := hown.cells (g := g) rfl
   have hr2 := run_append_grow (P := P) w t ty e i z ht hi hz ⟨g, 0, none⟩ n cap xs hown.1 holds a m c news hl hnews (by omega) (by omega) (growslice_fits (by omega) hbytes)
   rw [hr2] at hr
   have e1 := (Result.ok.inj hr).1
   have e2 := (Result.ok.inj hr).2
   subst e2
   rw [← e1] at h2
   exact ⟨_, _, _, hr2, h2, .inr ⟨rfl, ⟨rfl, rfl, rfl, by simp, fun k hk _ => heap_alloc_old w.drew _ hk⟩⟩, h3⟩
section
variable {ops : Array Oper} {Q : Exit → Act → World → Prop} {S : World → Prop} {fuel : Nat} {listed : Array Bool} {a : Act} {w : World}
theorem stAppK (i d : Nat) {o : Oper} (hop : ops[i]? = some o) (hd : o.dst = some d) (hw : Region.wanted o (yielded ops a.tmps) = true) (s x : Operand)
  (ho : o.op = .call { callee := .builtin .append, args := #[s, x], argTypes := #[61, 61] }) (B b ca : Nat) (v : Value) (l : List ByteArray) (y : ByteArray) (hs : a.eval s = v) (hx : a.eval x = .slice (some ⟨b, 0, none⟩) 1 ca)
  (hown : TOw w B v l) (hb : w.heap[b]? = some (.cells #[.string y] 9 (0, 0))) (hl : l.length ≤ 1000000000) (hbase : B ≤ w.heap.size)
  (h : ∀ v' w', TOw w' B v' (l ++ [y]) → Chg w w' (fun k => v.ownBlock = some k) → (∀ g0 n0 c0, v = .slice (some ⟨g0, 0, none⟩) n0 c0 → ∀ (j : Nat) t, l[j]? = some t → w'.cell? ⟨g0, j, none⟩ = some (.string t)) →
   S w' ∧ wpAnyH Tryz.prog .any ops Q S fuel (listed.setIfInBounds i true) { a with tmps := a.tmps.setIfInBounds d v' } w') : St ops Q S fuel listed a w i := by
 obtain ⟨inf, hi, hz, hsz, hby⟩ := infoT
 obtain ⟨g', c', w', hr, h2, h3, h4⟩ := run_append_keep (P := Tryz.prog) w B 61 o.type 9 inf _ 1 16 Tryz.underlying61 hi hz hsz hby rfl (by decide) v l.length (l.map Value.string) hown ⟨b, 0, none⟩ 1 ca [.string y] rfl (fun j u hj => by
   rw [addr_add, Nat.zero_add, cell_of_row _ _ _ _ _ _ hb]
   simpa using hj) (by simp [Value.oneCell']) (by decide) (by unfold maxLen; omega) (by omega) hbase
 have hT : TOw w' B (.slice (some ⟨g', 0, none⟩) (l.length + 1) c') (l ++ [y]) := by unfold TOw; rw [List.map_append, List.length_append]; exact h2
 have hh := h _ w' hT ((Chg.grown h4).mono fun j _ e => e.symm) (fun g0 n0 c0 hv j t hj => by
  rcases h3 with ⟨e1, _⟩ | ⟨_, e2⟩
  ·rw [hv] at e1
   cases e1
   obtain ⟨g3, e3, _, e4⟩ := hT.cell (j := j) (t := t) (by rw [List.getElem?_append_left (List.getElem?_eq_some_iff.1 hj).1]; exact hj)
   cases e3
   exact e4 w' (Chg.refl _ _)
  ·rw [hv] at hown
   obtain ⟨g3, e3, _, e4⟩ := hown.cell hj
   cases e3
   exact e4 w' ((Chg.grown e2).mono fun _ _ e => by cases e))
 refine wpOp_step hop (fun K hK => ?_)
 rw [if_pos hw]
 unfold Oper.wp execOp
 simp only [ho, resolve, invoke, builtin, Sem.run_bind, Sem.run_pure, Result.andThen_ok, List.map_toArray, List.map_cons, List.map_nil, hs, hx, hr]
 refine hK _ _ ⟨hh.1, ?_⟩
 unfold Act.put
 rw [hd]
 exact hh.2
end
end Go.Proofs.YtmgfilacepnjlaaGreatDoor

namespace Go.Proofs.YtmgfilacepnjlaaGreatDoor
open Go.RowKit

theorem build_ask (k : Int) (t : ByteArray) (W : World) : (Instr.build 34 #[(0, .int .i64 k), (1, .string t)]).run Tryz.prog W = .ok (.agg #[.int .i64 k, .string t, .string ⟨#[]⟩, .int .i64 0, .int .i64 0, .slice none 0 0, .int .i64 0, .int .i64 0]) W := by kernel_rfl
theorem build_read (k n : Int) (t : ByteArray) (W : World) : (Instr.build 34 #[(0, .int .i64 k), (1, .string t), (4, .int .i64 n)]).run Tryz.prog W = .ok (.agg #[.int .i64 k, .string t, .string ⟨#[]⟩, .int .i64 0, .int .i64 n, .slice none 0 0, .int .i64 0, .int .i64 0]) W := by kernel_rfl
theorem ML.call {w w' : World} (h : ML w) (hc : Chg w w' No) : ML w' := h.keep hc (fun _ e => e.elim)
end Go.Proofs.YtmgfilacepnjlaaGreatDoor
