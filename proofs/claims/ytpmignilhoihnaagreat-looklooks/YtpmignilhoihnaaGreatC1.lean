/-
 A look in memory: the struct, the image, the image as it should be, what is claimed.
-/
import Derived.Deep.WholeRow
import Derived.ChangeKeysEq
import Derived.Maps.RangeWalk
import Derived.Test.YtpmignilhoihnaaGreatLI4
import Derived.Test.YtpmignilhoihnaaGreatLH4
import Derived.Test.YtpmignilhoihnaaGreatLP2
import Derived.Deep.DeepMust
namespace Go.Proofs.YtpmignilhoihnaaGreat
open Go.RowKit
-- may lack

def I64 (c : Int) : Prop := -9223372036854775808 ≤ c ∧ c ≤ 9223372036854775807
end Go.Proofs.YtpmignilhoihnaaGreat

namespace Go.Proofs.YtpmignilhoihnaaGreat
open Go.RowKit

structure Chg (w w' : World) (ks : Nat → Prop) : Prop where
 os : w'.os = w.os
 tape : w'.tape = w.tape
 output : w'.output = w.output
 size : w.heap.size ≤ w'.heap.size
 block : ∀ k, k < w.heap.size → ¬ ks k → w'.heap[k]? = w.heap[k]?

def No (_ : Nat) : Prop := False

theorem Chg.refl (w : World) (ks : Nat → Prop) : Chg w w ks := ⟨rfl, rfl, rfl, Nat.le_refl _, fun _ _ _ => rfl⟩
theorem Chg.of_below {w w' : World} (h : Below w.heap.size w w') (ks : Nat → Prop) : Chg w w' ks := ⟨h.os, h.tape, h.output, h.size, fun k hk _ => h.block k hk⟩
theorem Chg.below {w w' : World} (h : Chg w w' No) : Below w.heap.size w w' := ⟨h.os, h.tape, h.output, h.size, fun k hk => h.block k hk (fun h => h)⟩
theorem Chg.trans {w w1 w2 : World} {a b c : Nat → Prop} (h : Chg w w1 a) (k : Chg w1 w2 b) (ha : ∀ j, j < w.heap.size → a j → c j) (hb : ∀ j, j < w.heap.size → b j → c j) : Chg w w2 c :=
 ⟨k.os.trans h.os, k.tape.trans h.tape, k.output.trans h.output, Nat.le_trans h.size k.size, fun j hj hn => by
  rw [k.block j (Nat.lt_of_lt_of_le hj h.size) (fun e => hn (hb j hj e)), h.block j hj (fun e => hn (ha j hj e))]⟩
theorem Chg.mono {w w' : World} {a b : Nat → Prop} (h : Chg w w' a) (hs : ∀ j, j < w.heap.size → a j → b j) : Chg w w' b :=
 ⟨h.os, h.tape, h.output, h.size, fun k hk hn => h.block k hk (fun e => hn (hs k hk e))⟩
theorem Chg.drew {w w' : World} {a : Nat → Prop} (h : Chg w w' a) : Chg w w'.drew a := ⟨h.os, h.tape, h.output, h.size, h.block⟩
theorem Chg.alloc (w : World) (o : Obj) (ks : Nat → Prop) : Chg w (w.alloc o) ks := ⟨rfl, rfl, rfl, by simp, fun k hk _ => Below.heap_alloc _ _ _ hk⟩
theorem Chg.grown {w w' : World} {row : Option Nat} (h : w.grownBy w' row) : Chg w w' (fun k => some k = row) := ⟨h.os, h.tape, h.output, h.size, fun k hk hn => h.block k hk hn⟩
theorem Chg.setCell {w : World} {g j : Nat} {v : Value} : Chg w (w.setCell ⟨g, j, none⟩ v) (· = g) :=
 ⟨rfl, rfl, rfl, by simp [World.setCell], fun k _ hn => heap_setCell_other w ⟨g, j, none⟩ k _ hn⟩
theorem Chg.keep {w w' : World} {ks : Nat → Prop} (h : Chg w w' ks) {g : Nat} {o : Obj} (hg : w.heap[g]? = some o) (hn : ¬ ks g) : w'.heap[g]? = some o := by
 rw [h.block g (slt hg) hn]; exact hg
end Go.Proofs.YtpmignilhoihnaaGreat

namespace Go.Proofs.YtpmignilhoihnaaGreat
open Go.RowKit

theorem keyI : Maps.Keyed Tryz.prog 3 := Maps.int_keyed Tryz.underlying3
theorem keyOfI {x : Int} (h : I64 x) : keyOf Tryz.prog 3 (.int .i64 x) = some (.int .i64 x) := Maps.keyOf_int_mk Tryz.underlying3 (WalkArith.wf_i64 h)
theorem wfI {x : Int} (h : (Lit.int .i64 x).wf = true) : I64 x := by
 have h : IntKind.i64.min ≤ x ∧ x ≤ 9223372036854775807 := by simpa [Lit.wf] using h
 exact ⟨h.1, h.2⟩
theorem keyLit (x : Int) : WideAt.IsKeyLit (.int .i64 x) := trivial

def SetAt (w : World) (b : Nat) (S : Int → Prop) : Prop :=
 ∃ D : DataW Unit, w.ownsMap Tryz.prog 3 unitElem b (Maps.size D) D ∧ ∀ x, Maps.has D (.int .i64 x) = true ↔ S x
section
variable {R : Value → Option (DataW Unit × List MemPlace)} {w : World} {b n : Nat} {D : DataW Unit}

theorem tight (h : w.ownsMap Tryz.prog 3 R b n D) : w.ownsMap Tryz.prog 3 R b (Maps.size D) D := by
 obtain ⟨es, clock, hb, F, hs, hD⟩ := h;refine ⟨es, clock, hb, F, ?_, hD⟩;rw [hD]
 simp [Maps.size, length_sorted]

theorem nodup_len : ∀ (l L : List Int), l.Pairwise (· ≠ ·) → (∀ x, x ∈ l → x ∈ L) → l.length ≤ L.length
 | [], _, _, _ => Nat.zero_le _
 | x :: l, L, hp, hs => by
  obtain ⟨h1, h2⟩ := List.pairwise_cons.1 hp;have hx : x ∈ L := hs x (by simp);have := nodup_len l (L.erase x) h2 (fun y hy => (List.mem_erase_of_ne (fun e => h1 y hy e.symm)).2 (hs y (by simp [hy])));rw [List.length_erase_of_mem hx] at this;have := List.length_pos_of_mem hx
  simp
  omega

theorem keys_of (h : w.ownsMap Tryz.prog 3 R b n D) : ∃ l : List Int, l.Pairwise (· ≠ ·) ∧ l.length = Maps.size D ∧ (∀ x, x ∈ l ↔ Maps.has D (.int .i64 x) = true) ∧ ∀ x, x ∈ l → I64 x := by
 obtain ⟨es, hD, hp, hk⟩ := h.entries keyI
 have hint : ∀ p ∈ es, ∃ x, p.1 = .int .i64 x ∧ I64 x := by
  obtain ⟨es', clock, _, F, _, hD'⟩ := h;rw [hD] at hD'
  cases hD'
  intro p hp
  obtain ⟨x, hx, rfl⟩ := List.mem_map.1 (mem_sorted.1 hp);obtain ⟨y, hy⟩ := F.reads x hx;obtain ⟨k, _, hk, hw⟩ := Maps.keyOf_int_inv Tryz.underlying3 (WideElems.rd_key hy);rw [WideElems.rg_of hy]
  exact ⟨k, hk, wfI hw⟩
 refine ⟨es.map (fun p => match p.1 with | .int _ x => x | _ => 0), ?_, ?_, ?_, ?_⟩
 ·rw [List.pairwise_map]
  refine List.Pairwise.imp_of_mem ?_ hp
  intro p q hp hq hne
  obtain ⟨x, hx, _⟩ := hint p hp;obtain ⟨y, hy, _⟩ := hint q hq;rw [hx, hy] at hne;rw [hx, hy]
  simpa using hne
 ·rw [hD]; simp [Maps.size]
 ·intro x
  rw [hD, Maps.has_eq, List.any_eq_true]
  constructor
  ·intro hx
   obtain ⟨p, hp, e⟩ := List.mem_map.1 hx;obtain ⟨y, hy, _⟩ := hint p hp;rw [hy] at e
   simp at e
   subst e
   exact ⟨p, hp, by rw [hy]; exact WideAt.sameKey_self (keyLit _)⟩
  ·rintro ⟨p, hp, hs⟩
   have := WideAt.sameKey_eq hs
   exact List.mem_map.2 ⟨p, hp, by rw [this]⟩
 ·intro x hx
  obtain ⟨p, hp, e⟩ := List.mem_map.1 hx;obtain ⟨y, hy, hw⟩ := hint p hp;rw [hy] at e
  simp at e
  rw [← e]
  exact hw

theorem size_le_of (h : w.ownsMap Tryz.prog 3 R b n D) (L : List Int) (hL : ∀ x, Maps.has D (.int .i64 x) = true → x ∈ L) : Maps.size D ≤ L.length := by
 obtain ⟨l, hp, hl, hm, _⟩ := keys_of h;rw [← hl]
 exact nodup_len l L hp fun x hx => hL x ((hm x).1 hx)
theorem own_keep {w' : World} {ks : Nat → Prop} (h : w.ownsMap Tryz.prog 3 R b n D) (hc : Chg w w' ks) (hn : ¬ ks b) : w'.ownsMap Tryz.prog 3 R b n D := by
 obtain ⟨es, clock, hb, r⟩ := h
 exact ⟨es, clock, hc.keep hb hn, r⟩
end

theorem SetAt.lt {w : World} {b : Nat} {S : Int → Prop} (h : SetAt w b S) : b < w.heap.size := let ⟨_, h, _⟩ := h; h.lt
theorem SetAt.keep {w w' : World} {b : Nat} {S : Int → Prop} {ks : Nat → Prop} (h : SetAt w b S) (hc : Chg w w' ks) (hn : ¬ ks b) : SetAt w' b S := let ⟨D, h, k⟩ := h; ⟨D, own_keep h hc hn, k⟩
theorem SetAt.cong {w : World} {b : Nat} {S T : Int → Prop} (h : SetAt w b S) (hs : ∀ x, S x ↔ T x) : SetAt w b T := let ⟨D, h, k⟩ := h; ⟨D, h, fun x => (k x).trans (hs x)⟩
theorem SetAt.made (w : World) : SetAt (w.alloc (.map #[] 0)) w.heap.size (fun _ => False) :=
 ⟨.map [], World.ownsMap_made w Tryz.prog 3 unitElem, fun x => by simp [Maps.has]⟩
theorem turned_chg {w w' : World} {b : Nat} (h : w.mapTurned w' b) : Chg w w' (· = b) ∧ w'.heap.size = w.heap.size := by
 refine ⟨?_, ?_⟩
 ·have := Chg.grown h.grown
  exact this.mono fun j _ e => by simpa using e
 ·obtain ⟨es, clock, es', clock', hb, rfl⟩ := h
  simp [ChangeMaps.setBlock]

theorem zeroU (w : World) : (zeroValue 92).run Tryz.prog w = .ok (.agg #[]) w := by kernel_rfl
theorem SetAt.store {w : World} {b : Nat} {S : Int → Prop} (h : SetAt w b S) {x : Int} (hx : I64 x) (hf : ∃ L : List Int, L.length ≤ 5000 ∧ ∀ x, S x → x ∈ L) :
  ∃ w', (Instr.mapUpdate 56 (.map (some b)) (.int .i64 x) (.agg #[])).run Tryz.prog w = .ok () w' ∧ SetAt w' b (fun y => y = x ∨ S y) ∧ Chg w w' (· = b) ∧ w'.heap.size = w.heap.size := by
 obtain ⟨D, h, hh⟩ := h;obtain ⟨L, hL, hm⟩ := hf;have hs := size_le_of h L (fun y hy => hm y ((hh y).1 hy));obtain ⟨w', hrun, ho, ht⟩ := h.store keyI Tryz.underlying56 (by unfold maxLen; omega) (keyOfI hx) (unitElem_mk (H := Unit));obtain ⟨h1, h2⟩ := turned_chg ht;refine ⟨w', hrun, ⟨_, tight ho, fun y => ?_⟩, h1, h2⟩
 by_cases hy : y = x
 ·subst hy
  simp [Maps.has_put_same h.isMap (keyLit y)]
 ·rw [Maps.has_put_other (by simpa using hy), hh y]
  simp [hy]
theorem SetAt.del {w : World} {b : Nat} {S : Int → Prop} (h : SetAt w b S) {x : Int} (hx : I64 x) (ty : TypeId) :
  ∃ w', (Builtin.delete_ #[56, 3] ty #[.map (some b), .int .i64 x]).run Tryz.prog w = .ok (.tuple #[]) w' ∧ SetAt w' b (fun y => S y ∧ y ≠ x) ∧ Chg w w' (· = b) ∧ w'.heap.size = w.heap.size := by
 obtain ⟨D, h, hh⟩ := h;obtain ⟨w', hrun, ho, ht⟩ := h.drop keyI Tryz.underlying56 (keyOfI hx) ty;obtain ⟨h1, h2⟩ := turned_chg ht;refine ⟨w', hrun, ⟨_, tight ho, fun y => ?_⟩, h1, h2⟩
 by_cases hy : y = x
 ·subst hy
  simp [Maps.has_del_same]
 ·rw [Maps.has_del_other (by simpa using hy), hh y]
  simp [hy]
section
variable {ops : Array Oper} {rest : List Oper} {o : Oper} {a : Act} {Q : Exit → Act → World → Prop} {w : World}

theorem wp_ok (hg : o.guard = none) (m x : Operand) (hop : o.op = Op.lookup 56 m x true) (b : Nat) (S : Int → Prop) (k : Int) (hm : a.eval m = .map (some b)) (hx : a.eval x = .int .i64 k)
  (h : SetAt w b S) (hk : I64 k) (hK : ∀ r : Bool, (r = true ↔ S k) → wpList Tryz.prog ops Q rest (a.put o.dst (.tuple #[.agg #[], .bool r])) w) : wpList Tryz.prog ops Q (o :: rest) a w := by
 obtain ⟨D, h, hh⟩ := h
 exact wpList_lookup_own_unit w hg m x 56 hop 3 92 keyI Tryz.underlying56 (zeroU w) b _ D hm h _ _ hx (keyOfI hk) (hK _ (hh k))
theorem wp_storeS (hg : o.guard = none) (m x v : Operand) (hop : o.op = Op.mapUpdate 56 m x v) (b : Nat) (S : Int → Prop) (k : Int) (hm : a.eval m = .map (some b)) (hx : a.eval x = .int .i64 k) (hv : a.eval v = .agg #[])
  (h : SetAt w b S) (hk : I64 k) (hf : ∃ L : List Int, L.length ≤ 5000 ∧ ∀ x, S x → x ∈ L)
  (hK : ∀ w', SetAt w' b (fun y => y = k ∨ S y) → Chg w w' (· = b) → w'.heap.size = w.heap.size → wpList Tryz.prog ops Q rest (a.put o.dst undef) w') : wpList Tryz.prog ops Q (o :: rest) a w := by
 refine wpList_plain hg fun K' hK' => ?_
 obtain ⟨w', hrun, r1, r2, r3⟩ := h.store hk hf;unfold Oper.wp
 simp [execOp, hop, hm, hx, hv, hrun, Result.andThen]
 exact hK' _ _ (hK w' r1 r2 r3)
theorem wp_delS (hg : o.guard = none) (m x : Operand) (hop : o.op = Op.call { callee := Callee.builtin Builtin.delete, args := #[m, x], argTypes := #[56, 3] }) (b : Nat) (S : Int → Prop) (k : Int) (hm : a.eval m = .map (some b)) (hx : a.eval x = .int .i64 k)
  (h : SetAt w b S) (hk : I64 k)
  (hK : ∀ w', SetAt w' b (fun y => S y ∧ y ≠ k) → Chg w w' (· = b) → w'.heap.size = w.heap.size → wpList Tryz.prog ops Q rest (a.put o.dst (.tuple #[])) w') : wpList Tryz.prog ops Q (o :: rest) a w := by
 refine wpList_plain hg fun K' hK' => ?_
 obtain ⟨w', hrun, r1, r2, r3⟩ := h.del hk o.type;unfold Oper.wp
 simp [execOp, hop, resolve, invoke, builtin, hm, hx, hrun, Result.andThen]
 exact hK' _ _ (hK w' r1 r2 r3)
end


end Go.Proofs.YtpmignilhoihnaaGreat

namespace Go.Proofs.YtpmignilhoihnaaGreat
open Go.RowKit

def wipK (s : List Int) (from_ : Int) : Nat → List Int
 | 0 => s
 | k + 1 => if from_ ≤ (k : Int) then (wipK s from_ k).set k 0 else wipK s from_ k
theorem wipK_len (s : List Int) (f : Int) : ∀ k, (wipK s f k).length = s.length
 | 0 => rfl
 | k + 1 => by
  simp only [wipK]
  split
  ·rw [List.length_set, wipK_len s f k]
  ·exact wipK_len s f k
def wip (s : List Int) (f : Int) : List Int := wipK s f 128
theorem wip_len (s : List Int) (f : Int) (h : s.length = 128) : (wip s f).length = 128 := by rw [wip, wipK_len, h]
theorem wipK_get (s : List Int) (f : Int) : ∀ k : Nat, k ≤ s.length → ∀ i : Nat, (wipK s f k).getD i 0 = if i < k ∧ f ≤ (i : Int) then 0 else s.getD i 0
 | 0, _, i => by rw [if_neg (by omega)]; rfl
 | k + 1, h, i => by
  have ih := wipK_get s f k (by omega) i
  simp only [wipK]
  split
  ·rename_i hf
   have hk : k < (wipK s f k).length := by rw [wipK_len]; omega
   simp only [List.getD_eq_getElem?_getD, List.getElem?_set] at *
   by_cases e : k = i
   ·subst e; rw [if_pos rfl, if_pos hk, if_pos ⟨by omega, hf⟩]; rfl
   ·rw [if_neg e, ih]
    by_cases c : i < k ∧ f ≤ (i : Int)
    ·rw [if_pos c, if_pos ⟨by omega, c.2⟩]
    ·rw [if_neg c, if_neg (by omega)]
  ·rename_i hf
   rw [ih]
   by_cases c : i < k ∧ f ≤ (i : Int)
   ·rw [if_pos c, if_pos ⟨by omega, c.2⟩]
   ·rw [if_neg c]
    by_cases c' : i < k + 1 ∧ f ≤ (i : Int)
    ·have : i = k := by omega
     subst this
     exact absurd c'.2 hf
    ·rw [if_neg c']
theorem wip_get (s : List Int) (f : Int) (h : s.length = 128) (i : Nat) : (wip s f).getD i 0 = if f ≤ (i : Int) then 0 else s.getD i 0 := by
 rw [wip, wipK_get s f 128 (by omega) i]
 by_cases hi : i < 128
 ·by_cases c : f ≤ (i : Int)
  ·rw [if_pos ⟨hi, c⟩, if_pos c]
  ·rw [if_neg (fun k => c k.2), if_neg c]
 ·have e : s.getD i 0 = 0 := by simp [List.getD_eq_getElem?_getD, List.getElem?_eq_none (by omega : s.length ≤ i)]
  rw [if_neg (by omega), e]
  split <;> rfl
theorem wip_sec {s : List Int} (hs : IsSec s) (f : Int) : IsSec (wip s f) := by
 refine ⟨wip_len s f hs.1, fun x hx => ?_⟩;obtain ⟨i, hi, rfl⟩ := List.getElem_of_mem hx
 have e : (wip s f)[i] = (wip s f).getD i 0 := by simp [hi]
 rw [e, wip_get s f hs.1 i]
 split
 ·omega
 ·exact hs.at i

set_option maxRecDepth 100000 in
set_option maxHeartbeats 400000 in
theorem wipe_any (s : List Int) (f : Int) (w : World) (hs : s.length = 128) :
  Calls Tryz.prog 118 #[.agg (SA s), .int .i64 f] w fun e w' => e = .returned (.agg (SA (wip s f))) ∧ Below w.heap.size w w' := by
 have hz := zero_sec;have HO : Hid (((w.alloc (.cells (SA s) 33)).alloc (.cells (SA Zs) 33)).heap[w.heap.size]? = some (.cells (SA s) 33 (0, 0))) := heap_alloc2_old w _ _;have HN : Hid (((w.alloc (.cells (SA s) 33)).alloc (.cells (SA Zs) 33)).heap[w.heap.size + 1]? = some (.cells (SA Zs) 33 (0, 0))) := heap_alloc2_new w _ _;have hb : Below w.heap.size w ((w.alloc (.cells (SA s) 33)).alloc (.cells (SA Zs) 33)) := ((Below.refl _ _).alloc (Nat.le_refl _) _).alloc (by simp) _
 go_enter Tryz.func118, Tryz.ntmps118
 go_wp2
 go_loopw [6] (fun i wr => ∃ k : Nat, k ≤ 128 ∧ i = .int .i64 k ∧ Hid (wr.heap[w.heap.size]? = some (.cells (SA (wipK s f k)) 33 (0, 0))) ∧ Hid (wr.heap[w.heap.size + 1]? = some (.cells (SA Zs) 33 (0, 0))) ∧ Below w.heap.size w wr) (fun i _ => 128 - (intOf i).toNat)
 case atStart => exact ⟨0, by omega, rfl, HO, HN, hb⟩
 case round =>
  obtain ⟨k, hk, rfl, H1, H2, h3⟩ := hrel
  by_cases hlt : k < 128
  ·by_cases c : f ≤ (k : Int)
   ·have hc := sec_cell H1.out k (by rw [wipK_len]; omega)
    have hf := sec_free H1.out k
    have E : Hid ((wipK s f k).set k 0 = wipK s f (k + 1)) := by show _ = _; simp only [wipK]; rw [if_pos c]
    go_wp2
    have hw := sec_setCell H1.out k 0;rw [E.out] at hw
    exact ⟨⟨k + 1, by omega, by go_num, hw.here, by show _ = _; rw [hw.other _ (by omega)]; exact H2.out, hw.below h3 (by omega)⟩, by simp [intOf]; omega⟩
   ·have E : Hid (wipK s f k = wipK s f (k + 1)) := by show _ = _; simp only [wipK]; rw [if_neg c]
    go_wp2
    exact ⟨⟨k + 1, by omega, by go_num, by rw [← E.out]; exact H1, H2, h3⟩, by simp [intOf]; omega⟩
  ·have e : k = 128 := by omega
   subst e
   have hlen : (wipK s f 128).length = 128 := by rw [wipK_len, hs]
   go_wp2_with (first | refine load_sec rfl _ rfl w.heap.size rfl (wipK s f 128) hlen H1.out ?_ | (refine store_sec rfl _ _ rfl (w.heap.size + 1) rfl (wipK s f 128) rfl hlen Zs Zs_len H2.out ?_; intro w2 hw2))
   exact bodyPost_ret (v := .agg (SA (wipK s f 128))) (results_sec1 Tryz.results118 _ _ (w.heap.size + 1) _ hlen rfl hw2.here) rfl ⟨rfl, hw2.below h3 (by omega)⟩

end Go.Proofs.YtpmignilhoihnaaGreat

namespace Go.Proofs.YtpmignilhoihnaaGreat
open Go.RowKit Go.Shelf
-- may lack

def dataB (b a n : Int) : Bool := decide (b < n) && decide (n < a)

set_option maxHeartbeats 400000 in
theorem isData_any (a b n : Int) (w : World) : Calls Tryz.prog 115 #[.agg #[.int .i64 a, .int .i64 b], .int .i64 n] w fun e w' => e = .returned (.bool (dataB b a n)) ∧ Below w.heap.size w w' := by
 have hb : Below w.heap.size w (w.alloc (.cells #[.int .i64 a, .int .i64 b] 42)) := (Below.refl _ _).alloc (Nat.le_refl _) _
 by_cases h1 : b < n
 ·by_cases h2 : n < a
  ·go_enter Tryz.func115, Tryz.ntmps115
   go_wp2
   go_ret
   exact ⟨ret_bool (by simp [dataB, h1, h2]), hb⟩
  ·go_enter Tryz.func115, Tryz.ntmps115
   go_wp2
   go_ret
   exact ⟨ret_bool (by simp [dataB]; omega), hb⟩
 ·go_enter Tryz.func115, Tryz.ntmps115
  go_wp2
  go_ret
  exact ⟨ret_bool (by simp [dataB]; omega), hb⟩

set_option maxHeartbeats 400000 in
theorem risData_any (a b n : Int) (w : World) : Calls Tryz.prog 94 #[.agg #[.int .i64 a, .int .i64 b], .int .i64 n] w fun e w' => e = .returned (.bool (dataB b a n)) ∧ Below w.heap.size w w' := by
 have hb : Below w.heap.size w (w.alloc (.cells #[.int .i64 a, .int .i64 b] 42)) := (Below.refl _ _).alloc (Nat.le_refl _) _
 by_cases h1 : b < n
 ·by_cases h2 : n < a
  ·go_enter Tryz.func94, Tryz.ntmps94
   go_wp2
   go_ret
   exact ⟨ret_bool (by simp [dataB, h1, h2]), hb⟩
  ·go_enter Tryz.func94, Tryz.ntmps94
   go_wp2
   go_ret
   exact ⟨ret_bool (by simp [dataB]; omega), hb⟩
 ·go_enter Tryz.func94, Tryz.ntmps94
  go_wp2
  go_ret
  exact ⟨ret_bool (by simp [dataB]; omega), hb⟩

end Go.Proofs.YtpmignilhoihnaaGreat

namespace Go.Proofs.YtpmignilhoihnaaGreat
open Go.RowKit Go.Shelf

abbrev Img := List (List Int)
def secI (im : Img) (n : Int) : List Int := im.getD n.toNat Zs
structure TS where
 wt : Img
 cl : Int → Bool
 sp : List (Int × Int)
abbrev KeepF := TS → Int → Int → Bool × TS
def claimB (N M : Int) (cl : Int → Bool) (n : Int) : Bool := !cl n && dataB M N n
def putC (cl : Int → Bool) (n : Int) : Int → Bool := fun x => x == n || cl x
def delC (cl : Int → Bool) (n : Int) : Int → Bool := fun x => x != n && cl x
def blockF (N M cnt : Int) : KeepF := fun s i n =>
 if decide (i < cnt) && claimB N M s.cl n then (true, ⟨s.wt, putC s.cl n, s.sp ++ [(i, n)]⟩) else (false, s)
def goK (keep : KeepF) (t0 : List Int) (s0 : TS) : Nat → List Int × TS
 | 0 => (t0, s0)
 | k + 1 =>
  let r := goK keep t0 s0 k
  let v := keep r.2 k (t0.getD k 0)
  (r.1.set k (if v.1 then t0.getD k 0 else 0), v.2)
def goF (keep : KeepF) (at_ : Int) (s : TS) : Bool × TS :=
 let r := goK keep (ptrsTo (secI s.wt at_) 32) s 32
 if r.1 = Zp then (false, ⟨r.2.wt, delC r.2.cl at_, r.2.sp⟩) else (true, ⟨r.2.wt.set at_.toNat (ptrS r.1), r.2.cl, r.2.sp⟩)
def innerF (each f : Int) (keep : KeepF) : KeepF := fun s k p => keep s (f + each * k) p
def tableF (N M cnt each : Int) (keep : KeepF) : KeepF := fun s f n =>
 if decide (f < cnt) && claimB N M s.cl n then goF (innerF each f keep) n ⟨s.wt, putC s.cl n, s.sp⟩ else (false, s)
def singleF (N M cnt : Int) : KeepF := tableF N M cnt 1 (blockF N M cnt)
def doubleF (N M cnt : Int) : KeepF := tableF N M cnt 32 (singleF N M cnt)
def cntZ (z : List Int) : Int := (z.getD 2 0 + 127) / 128
def leftF (b : Bool) (n : Int) : Int := if b then n else 0
def dirT (N M : Int) (z : List Int) (wt : Img) (cl : Int → Bool) : List Int × TS := goK (blockF N M (cntZ z)) ((z.drop 4).take 12) ⟨wt, cl, []⟩ 12
def sinT (N M : Int) (z : List Int) (wt : Img) (cl : Int → Bool) : Bool × TS := singleF N M (cntZ z) (dirT N M z wt cl).2 12 (z.getD 16 0)
def dblT (N M : Int) (z : List Int) (wt : Img) (cl : Int → Bool) : Bool × TS := doubleF N M (cntZ z) (sinT N M z wt cl).2 44 (z.getD 17 0)
def inoT (N M : Int) (z : List Int) (wt : Img) (cl : Int → Bool) : List Int :=
 [z.getD 0 0, 0, z.getD 2 0, z.getD 3 0] ++ (dirT N M z wt cl).1 ++ [leftF (sinT N M z wt cl).1 (z.getD 16 0), leftF (dblT N M z wt cl).1 (z.getD 17 0)]

structure LS where
 wt : Img
 cl : Int → Bool
 wp : Int → Bool
 tk : Int → Option (List Int)
 q : List (List Int)
def lastB (size : Int) (sp : List (Int × Int)) : Option (Int × Int) :=
 match sp.getLast? with
 | some l => if size % 128 ≠ 0 ∧ l.1 = size / 128 then some l else none
 | none => none
def wipeW (size : Int) (sp : List (Int × Int)) (wt : Img) : Img :=
 match lastB size sp with
 | some l => wt.set l.2.toNat (wip (secI wt l.2) (size % 128))
 | none => wt
def wipeP (size : Int) (sp : List (Int × Int)) (wp : Int → Bool) : Int → Bool :=
 match lastB size sp with
 | some l => putC wp l.2
 | none => wp
def takeL (N M : Int) (z : List Int) (s : LS) : LS :=
 let r := (dblT N M z s.wt s.cl).2
 if z.getD 0 0 = 2 then ⟨r.wt, r.cl, s.wp, s.tk, s.q ++ [r.sp.map Prod.snd]⟩
 else ⟨wipeW (z.getD 2 0) r.sp r.wt, r.cl, wipeP (z.getD 2 0) r.sp s.wp, s.tk, s.q⟩
def soundZ (M : Int) (im : Img) (i : Int) : List Int × Bool :=
 if 1 ≤ i ∧ i ≤ M then
  let r := rdIno (zTo (secI im i) 18) (secI im i)
  (r.1, decide (r.2 = 0) && decide (r.1.getD 0 0 ≠ 0))
 else (Zi, false)
def putT (tk : Int → Option (List Int)) (i : Int) (z : List Int) : Int → Option (List Int) := fun x => if x = i then some z else tk x
def moreZ (z : List Int) : List Int := z.set 1 (z.getD 1 0 + 1)
def enterL (N M : Int) (im : Img) (i : Int) (s : LS) : LS :=
 match s.tk i with
 | some z => { s with tk := putT s.tk i (moreZ z) }
 | none =>
  let z := (soundZ M im i).1
  let s1 := takeL N M z s
  { s1 with tk := putT s1.tk i (moreZ (inoT N M z s.wt s.cl)) }
def isEntryB (M : Int) (im : Img) (s : LS) (ino : Int) (there : Bool) : Bool :=
 if there || decide (ino = 1) then false
 else match s.tk ino with
  | some z => decide (z.getD 0 0 = 1) && decide (z.getD 1 0 < 100)
  | none => (soundZ M im ino).2
def slotOf (s : List Int) : Int × ByteArray × Int := rdSlot (getV s 0 4) s
def hasN (l : List ByteArray) (s : ByteArray) : Bool := l.any fun y => decide (y.data = s.data)
def slotL (N M : Int) (im : Img) (n : Int) (r : List ByteArray × LS) : List ByteArray × LS :=
 let x := slotOf (secI r.2.wt n)
 if x.2.2 = 0 ∧ x.1 = 0 ∧ x.2.1.size = 0 then r
 else if x.2.2 = 0 ∧ isEntryB M im r.2 x.1 (hasN r.1 x.2.1) = true then (x.2.1 :: r.1, enterL N M im x.1 r.2)
 else (r.1, { r.2 with wt := r.2.wt.set n.toNat Zs })
def dirK (N M : Int) (im : Img) : List Int → List ByteArray × LS → List ByteArray × LS
 | [], r => r
 | n :: l, r => dirK N M im l (slotL N M im n r)
def dirL (N M : Int) (im : Img) (l : List Int) (s : LS) : LS := (dirK N M im l ([], s)).2
def allL (N M : Int) (im : Img) : Nat → LS → LS
 | 0, s => s
 | f + 1, s => match s.q with
  | [] => s
  | l :: q => allL N M im f (dirL N M im l { s with q := q })
def inodeW (tk : Int → Option (List Int)) (i : Int) : List Int := inoS ((tk i).getD Zi)
def layK (tk : Int → Option (List Int)) (wt : Img) : Nat → Img
 | 0 => wt
 | k + 1 => (layK tk wt k).set (k + 1) (inodeW tk (k + 1))

end Go.Proofs.YtpmignilhoihnaaGreat

namespace Go.Proofs.YtpmignilhoihnaaGreat
open Go.RowKit

def decV (v : Value) : Option (DataW Value × List MemPlace) := some (.held v, [])
theorem zeroP (w : World) : (zeroValue 51).run Tryz.prog w = .ok (.agg (NA Zi)) w := zero_inode w

def MapV (w : World) (b : Nat) (f : Int → Option Value) : Prop :=
 ∃ D : DataW Value, w.ownsMap Tryz.prog 3 decV b (Maps.size D) D ∧ (∀ x, Maps.has D (.int .i64 x) = (f x).isSome) ∧ ∀ x v, f x = some v → ∀ z, D.atKey (.int .i64 x) z = .held v

section
variable {R : Value → Option (DataW Value × List MemPlace)} {w : World} {b n : Nat} {D : DataW Value}
theorem tightV (h : w.ownsMap Tryz.prog 3 R b n D) : w.ownsMap Tryz.prog 3 R b (Maps.size D) D := by
 obtain ⟨es, clock, hb, F, hs, hD⟩ := h;refine ⟨es, clock, hb, F, ?_, hD⟩;rw [hD]
 simp [Maps.size, length_sorted]
theorem keys_ofV (h : w.ownsMap Tryz.prog 3 R b n D) : ∃ l : List Int, l.Pairwise (· ≠ ·) ∧ l.length = Maps.size D ∧ (∀ x, x ∈ l ↔ Maps.has D (.int .i64 x) = true) ∧ ∀ x, x ∈ l → I64 x := by
 obtain ⟨es, hD, hp, hk⟩ := h.entries keyI
 have hint : ∀ p ∈ es, ∃ x, p.1 = .int .i64 x ∧ I64 x := by
  obtain ⟨es', clock, _, F, _, hD'⟩ := h;rw [hD] at hD'
  cases hD'
  intro p hp
  obtain ⟨x, hx, rfl⟩ := List.mem_map.1 (mem_sorted.1 hp);obtain ⟨y, hy⟩ := F.reads x hx;obtain ⟨k, _, hk, hw⟩ := Maps.keyOf_int_inv Tryz.underlying3 (WideElems.rd_key hy);rw [WideElems.rg_of hy]
  exact ⟨k, hk, wfI hw⟩
 refine ⟨es.map (fun p => match p.1 with | .int _ x => x | _ => 0), ?_, ?_, ?_, ?_⟩
 ·rw [List.pairwise_map]
  refine List.Pairwise.imp_of_mem ?_ hp
  intro p q hp hq hne
  obtain ⟨x, hx, _⟩ := hint p hp;obtain ⟨y, hy, _⟩ := hint q hq;rw [hx, hy] at hne;rw [hx, hy]
  simpa using hne
 ·rw [hD]; simp [Maps.size]
 ·intro x
  rw [hD, Maps.has_eq, List.any_eq_true]
  constructor
  ·intro hx
   obtain ⟨p, hp, e⟩ := List.mem_map.1 hx;obtain ⟨y, hy, _⟩ := hint p hp;rw [hy] at e
   simp at e
   subst e
   exact ⟨p, hp, by rw [hy]; exact WideAt.sameKey_self (keyLit _)⟩
  ·rintro ⟨p, hp, hs⟩
   have := WideAt.sameKey_eq hs
   exact List.mem_map.2 ⟨p, hp, by rw [this]⟩
 ·intro x hx
  obtain ⟨p, hp, e⟩ := List.mem_map.1 hx;obtain ⟨y, hy, hw⟩ := hint p hp;rw [hy] at e
  simp at e
  rw [← e]
  exact hw
theorem size_leV (h : w.ownsMap Tryz.prog 3 R b n D) (L : List Int) (hL : ∀ x, Maps.has D (.int .i64 x) = true → x ∈ L) : Maps.size D ≤ L.length := by
 obtain ⟨l, hp, hl, hm, _⟩ := keys_ofV h;rw [← hl]
 exact nodup_len l L hp fun x hx => hL x ((hm x).1 hx)
end

variable {w : World} {b : Nat} {f : Int → Option Value}
theorem MapV.lt (h : MapV w b f) : b < w.heap.size := let ⟨_, h, _⟩ := h; h.lt
theorem MapV.keep {w' : World} {ks : Nat → Prop} (h : MapV w b f) (hc : Chg w w' ks) (hn : ¬ ks b) : MapV w' b f := by
 obtain ⟨D, ⟨es, clock, hb, r⟩, k⟩ := h
 exact ⟨D, ⟨es, clock, hc.keep hb hn, r⟩, k⟩
theorem MapV.cong {g : Int → Option Value} (h : MapV w b f) (hs : ∀ x, f x = g x) : MapV w b g := by
 have : f = g := funext hs
 exact this ▸ h
theorem MapV.isMap (h : MapV w b f) : ∃ es clock, w.heap[b]? = some (.map es clock) := by
 obtain ⟨D, ⟨es, clock, h, _⟩, _⟩ := h
 exact ⟨es, clock, h⟩
theorem MapV.made (w : World) : MapV (w.alloc (.map #[] 0)) w.heap.size (fun _ => none) :=
 ⟨.map [], World.ownsMap_made w Tryz.prog 3 decV, fun x => by simp [Maps.has], fun x c h => by cases h⟩
theorem MapV.look (h : MapV w b f) {x : Int} (hx : I64 x) : (Instr.lookup 57 (.map (some b)) (.int .i64 x) false).run Tryz.prog w = .ok (match f x with | some v => v | none => .agg (NA Zi)) w := by
 obtain ⟨D, h, hh, ha⟩ := h;obtain ⟨v, ps, hrun, hv⟩ := h.lookup keyI Tryz.underlying57 (zeroP w) (zd := .held (.agg (NA Zi))) (zp := []) rfl (keyOfI hx);rw [hrun]
 have hz : DataW.held v = D.atKey (.int .i64 x) (.held (.agg (NA Zi))) := by
  have : decV v = some (.held v, []) := rfl;rw [this] at hv
  simpa using congrArg (fun o => o.map Prod.fst) hv
 cases hf : f x with
 | none =>
  have h0 : Maps.has D (.int .i64 x) = false := by rw [hh x, hf]; rfl
  rw [Maps.atKey_of_not_has h0] at hz
  cases hz
  rfl
 | some u =>
  rw [ha x u hf] at hz
  cases hz
  rfl
theorem MapV.look_ok (h : MapV w b f) {x : Int} (hx : I64 x) : (Instr.lookup 57 (.map (some b)) (.int .i64 x) true).run Tryz.prog w = .ok (.tuple #[match f x with | some v => v | none => .agg (NA Zi), .bool (f x).isSome]) w := by
 obtain ⟨D, h, hh, ha⟩ := h;obtain ⟨v, ps, hrun, hv⟩ := h.look_ok keyI Tryz.underlying57 (zeroP w) (zd := .held (.agg (NA Zi))) (zp := []) rfl (keyOfI hx);rw [hrun, hh x]
 have hz : DataW.held v = D.atKey (.int .i64 x) (.held (.agg (NA Zi))) := by
  have : decV v = some (.held v, []) := rfl;rw [this] at hv
  simpa using congrArg (fun o => o.map Prod.fst) hv
 cases hf : f x with
 | none =>
  have h0 : Maps.has D (.int .i64 x) = false := by rw [hh x, hf]; rfl
  rw [Maps.atKey_of_not_has h0] at hz
  cases hz
  rfl
 | some u =>
  rw [ha x u hf] at hz
  cases hz
  rfl
theorem MapV.store (h : MapV w b f) {x : Int} (hx : I64 x) (v : Value) (hf : ∃ L : List Int, L.length ≤ 5000 ∧ ∀ x, (f x).isSome = true → x ∈ L) :
  ∃ w', (Instr.mapUpdate 57 (.map (some b)) (.int .i64 x) v).run Tryz.prog w = .ok () w' ∧ MapV w' b (fun y => if y = x then some v else f y) ∧ Chg w w' (· = b) ∧ w'.heap.size = w.heap.size := by
 obtain ⟨D, h, hh, ha⟩ := h;obtain ⟨L, hL, hm⟩ := hf;have hs := size_leV h L (fun y hy => hm y ((hh y).symm.trans hy));obtain ⟨w', hrun, ho, ht⟩ := h.store keyI Tryz.underlying57 (by unfold maxLen; omega) (keyOfI hx) (d := .held v) (ps := []) (val := v) rfl;obtain ⟨h1, h2⟩ := turned_chg ht;refine ⟨w', hrun, ⟨_, tightV ho, fun y => ?_, fun y c hc z => ?_⟩, h1, h2⟩
 ·by_cases hy : y = x
  ·subst hy
   simp [Maps.has_put_same h.isMap (keyLit y)]
  ·rw [Maps.has_put_other (by simpa using hy), hh y]
   simp [hy]
 ·by_cases hy : y = x
  ·subst hy
   simp at hc
   rw [Maps.atKey_put_same h.isMap (keyLit y), hc]
  ·rw [Maps.atKey_put_other (by simpa using hy)]
   simp [hy] at hc
   exact ha y c hc z
section
variable {ops : Array Oper} {rest : List Oper} {o : Oper} {a : Act} {Q : Exit → Act → World → Prop}
theorem wp_okV (hg : o.guard = none) (m x : Operand) (hop : o.op = Op.lookup 57 m x true) (b : Nat) (f : Int → Option Value) (k : Int) (c : Value) (r : Bool) (hc : (match f k with | some v => v | none => .agg (NA Zi)) = c) (hr : (f k).isSome = r) (hm : a.eval m = .map (some b)) (hx : a.eval x = .int .i64 k)
  (h : MapV w b f) (hk : I64 k) (hK : wpList Tryz.prog ops Q rest (a.put o.dst (.tuple #[c, .bool r])) w) : wpList Tryz.prog ops Q (o :: rest) a w := by
 subst hc hr
 refine wpList_plain hg fun K' hK' => ?_
 unfold Oper.wp
 simp [execOp, hop, hm, hx, h.look_ok hk, Result.andThen]
 exact hK' _ _ hK
end

end Go.Proofs.YtpmignilhoihnaaGreat

namespace Go.Proofs.YtpmignilhoihnaaGreat
open Go.RowKit Go.Shelf

theorem setCells_row {g : Nat} {t : TypeId} : ∀ (vs : List Value) (o : Nat) (w : World) (A : Array Value), w.heap[g]? = some (.cells A t (0, 0)) →
  ∃ A', (w.setCells g o vs).heap[g]? = some (.cells A' t (0, 0)) ∧ A'.size = A.size ∧ (∀ i, A'[i]? = if o ≤ i ∧ i < o + vs.length ∧ i < A.size then vs[i - o]? else A[i]?) ∧ Chg w (w.setCells g o vs) (· = g) ∧ (w.setCells g o vs).heap.size = w.heap.size
 | [], o, w, A, h => ⟨A, h, rfl, fun i => by rw [if_neg (by simp; omega)], Chg.refl _ _, rfl⟩
 | v :: vs, o, w, A, h => by
  have h1 : (w.setCell ⟨g, o, none⟩ v).heap[g]? = some (.cells (A.setIfInBounds o v) t (0, 0)) := heap_setCell_same w g o A t _ h;obtain ⟨A', k1, k2, k3, k4, k5⟩ := setCells_row vs (o + 1) _ _ h1;refine ⟨A', k1, by simpa using k2, fun i => ?_, (Chg.setCell (w := w) (g := g) (j := o) (v := v)).trans k4 (fun _ _ e => e) (fun _ _ e => e), k5.trans (by simp [World.setCell])⟩;rw [k3 i]
  simp only [Array.size_setIfInBounds, List.length_cons, Array.getElem?_setIfInBounds]
  by_cases e : o = i
  ·subst e
   rw [if_neg (by omega), if_pos rfl]
   by_cases hs : o < A.size
   ·rw [if_pos hs, if_pos ⟨Nat.le_refl _, by omega, hs⟩, Nat.sub_self]; rfl
   ·rw [if_neg hs, if_neg (by omega), Array.getElem?_eq_none (by omega)]
  ·rw [if_neg e]
   by_cases c : o + 1 ≤ i ∧ i < o + 1 + vs.length ∧ i < A.size
   ·rw [if_pos c, if_pos ⟨by omega, by omega, c.2.2⟩, show i - o = (i - (o + 1)) + 1 by omega, List.getElem?_cons_succ]
   ·rw [if_neg c, if_neg (by omega)]

def WtAt (w : World) (g : Nat) (im : Img) : Prop :=
 (∀ s ∈ im, IsSec s) ∧ ∃ A, w.heap[g]? = some (.cells A 33 (0, 0)) ∧ ∀ (j : Nat) s, im[j]? = some s → ∀ (i : Nat) x, s[i]? = some x → A[j * 128 + i]? = some (.int .u8 x)
theorem WtAt.lt {w : World} {g : Nat} {im : Img} (h : WtAt w g im) : g < w.heap.size := by
 obtain ⟨_, A, h, _⟩ := h
 exact slt h
theorem WtAt.keep {w w' : World} {g : Nat} {im : Img} {ks : Nat → Prop} (h : WtAt w g im) (hc : Chg w w' ks) (hn : ¬ ks g) : WtAt w' g im := by
 obtain ⟨h0, A, h1, h2⟩ := h
 exact ⟨h0, A, hc.keep h1 hn, h2⟩
theorem WtAt.sec {w : World} {g : Nat} {im : Img} (h : WtAt w g im) (n : Int) : IsSec (secI im n) := by
 unfold secI;rw [List.getD_eq_getElem?_getD]
 cases hq : im[n.toNat]? with
 | none => exact Zs_sec
 | some s => exact h.1 s (List.mem_of_getElem? hq)
theorem getD_at {im : Img} {k : Nat} (h : k < im.length) : im[k]? = some (secI im (k : Int)) := by
 unfold secI;rw [Int.toNat_natCast, List.getD_eq_getElem?_getD, List.getElem?_eq_getElem h]
 rfl
theorem WtAt.range {w : World} {g : Nat} {im : Img} (h : WtAt w g im) {k : Nat} (hk : k < im.length) : w.rangeAt g (k * 128) ((secI im (k : Int)).map (Value.int .u8)) := by
 obtain ⟨h0, A, h1, h2⟩ := h
 intro i v hv
 rw [List.getElem?_map] at hv
 cases hx : (secI im (k : Int))[i]? with
 | none => rw [hx] at hv; cases hv
 | some x =>
  rw [hx] at hv;have := Option.some.inj hv;subst this;rw [cell_of_row _ _ _ _ _ _ h1]
  exact h2 k _ (getD_at hk) i x hx
theorem WtAt.set {w : World} {g : Nat} {im : Img} (h : WtAt w g im) {k : Nat} (hk : k < im.length) {c : List Int} (hc : IsSec c) :
  WtAt (w.setCells g (k * 128) (c.map (Value.int .u8))) g (im.set k c) ∧ Chg w (w.setCells g (k * 128) (c.map (Value.int .u8))) (· = g) ∧ (w.setCells g (k * 128) (c.map (Value.int .u8))).heap.size = w.heap.size := by
 obtain ⟨h0, A, h1, h2⟩ := h;obtain ⟨A', k1, k2, k3, k4, k5⟩ := setCells_row (c.map (Value.int .u8)) (k * 128) w A h1;refine ⟨⟨fun s hs => ?_, A', k1, fun j s hj i x hx => ?_⟩, k4, k5⟩
 ·rcases List.mem_or_eq_of_mem_set hs with e | e
  ·exact h0 s e
  ·exact e ▸ hc
 ·rw [k3]
  rw [List.getElem?_set] at hj
  have hlen : ∀ s ∈ im, s.length = 128 := fun s hs => (h0 s hs).1
  by_cases e : k = j
  ·subst e
   rw [if_pos rfl, if_pos hk] at hj;have := Option.some.inj hj;subst this
   have hi : i < 128 := by have := (List.getElem?_eq_some_iff.1 hx).1; rw [hc.1] at this; exact this
   have hb : k * 128 + i < A.size := by
    have hl : (secI im (k : Int)).length = 128 := hlen _ (List.mem_of_getElem? (getD_at hk));have := h2 k _ (getD_at hk) i ((secI im (k : Int))[i]) (List.getElem?_eq_getElem (by omega))
    exact (Array.getElem?_eq_some_iff.1 this).1
   rw [if_pos ⟨by omega, by rw [List.length_map, hc.1]; omega, hb⟩, show k * 128 + i - k * 128 = i by omega, List.getElem?_map, hx]
   rfl
  ·rw [if_neg e] at hj
   have hs := hlen s (List.mem_of_getElem? hj)
   have hi : i < 128 := by have := (List.getElem?_eq_some_iff.1 hx).1; omega
   rw [if_neg (by rw [List.length_map, hc.1]; omega)]
   exact h2 j s hj i x hx

section
variable {ops : Array Oper} {rest : List Oper} {o : Oper} {a : Act} {w : World} {Q : Exit → Act → World → Prop}
theorem store_wt (hgd : o.guard = none) (x y : Operand) (ho : o.op = .store 33 x y) (g k : Nat) (hx : a.eval x = .pointer (some ⟨g, k * 128, none⟩)) (c : List Int) (hy : a.eval y = .agg (SA c)) (hc : IsSec c) (im : Img) (hw : WtAt w g im) (hk : k < im.length)
  (h : ∀ w', WtAt w' g (im.set k c) → Chg w w' (· = g) → w'.heap.size = w.heap.size → wpList Tryz.prog ops Q rest (a.put o.dst undef) w') : wpList Tryz.prog ops Q (o :: rest) a w := by
 have hr := hw.range hk;have hl : (secI im (k : Int)).length = 128 := (hw.sec _).1;obtain ⟨_, A, hA, _⟩ := id hw;refine wpList_store_mid hgd 33 x y ho g (k * 128) (SA c) hx hy (fun j hj => ?_) (by rw [sz26, SA_size, hc.1]) (SA_one c) ?_
 ·rw [SA_size, hc.1] at hj
  rw [hr j (.int .u8 ((secI im (k : Int)).getD j 0)) (by simp [hl, hj])]
  exact ⟨rfl, frozen_of_row w g _ A 33 hA⟩
 ·obtain ⟨h1, h2, h3⟩ := hw.set hk hc
  simpa [SA] using h _ h1 h2 h3
theorem load_wt {g k : Nat} {im : Img} (hw : WtAt w g im) (hk : k < im.length) : (loadVar 33 ⟨g, k * 128, none⟩).run Tryz.prog w = .ok (.agg (SA (secI im (k : Int)))) w := by
 have hl : (secI im (k : Int)).length = 128 := (hw.sec _).1;have := run_loadVar_mid w g (k * 128) 33 ((secI im (k : Int)).map (Value.int .u8)) _ (hw.range hk) Tryz.underlying33 rfl (by rw [sz26, List.length_map, hl])
 simpa [SA] using this
end

end Go.Proofs.YtpmignilhoihnaaGreat

namespace Go.Proofs.YtpmignilhoihnaaGreat
open Go.RowKit Go.Shelf

structure LB where
 p : Nat
 wb : Nat
 cb : Nat
 vb : Nat
 tb : Nat
 qb : Nat
def lookV (b : LB) (N M : Nat) (ia : Option Addr) (ic wc : Nat) : Array Value :=
 #[.int .i64 N, .int .i64 M, .slice ia N ic, .slice (some ⟨b.wb, 0, none⟩) N wc, .map (some b.cb), .map (some b.vb), .map (some b.tb), .func (.func 73) #[] #[.pointer (some ⟨b.qb, 0, none⟩)], .func (.func 74) #[] #[.pointer (some ⟨b.qb, 0, none⟩)]]
structure LC where
 B : Nat
 b : LB
 N : Nat
 M : Nat
 ia : Option Addr
 ic : Nat
 wc : Nat
 im : Img
def ImgAt (W : World) (a : Option Addr) (im : List (List Int)) : Prop :=
 (∀ s ∈ im, IsSec s) ∧ (im = [] ∨ ∃ b o, a = some ⟨b, o, none⟩ ∧ b < W.heap.size ∧ ∀ (j : Nat) s, im[j]? = some s → W.rangeAt b (o + j * 128) (s.map (Value.int .u8)))
def blkOf : Option Addr → Nat → Prop
 | some a, k => a.block = k
 | none, _ => False
theorem ImgAt.keep {W W' : World} {a : Option Addr} {im : List (List Int)} {ks : Nat → Prop} (h : ImgAt W a im) (hc : Chg W W' ks) (hn : ∀ k, blkOf a k → ¬ ks k) : ImgAt W' a im := by
 refine ⟨h.1, ?_⟩
 rcases h.2 with e | ⟨b, o, rfl, h2, h3⟩
 ·exact .inl e
 ·refine .inr ⟨b, o, rfl, Nat.lt_of_lt_of_le h2 hc.size, fun j s hj k v hv => ?_⟩
  have := h3 j s hj k v hv;unfold World.cell? at this ⊢;rw [hc.block b h2 (hn b rfl)]
  exact this
theorem ImgAt.secI {W : World} {a : Option Addr} {im : List (List Int)} (h : ImgAt W a im) (n : Int) : IsSec (secI im n) := by
 unfold Go.Proofs.YtpmignilhoihnaaGreat.secI;rw [List.getD_eq_getElem?_getD]
 cases hq : im[n.toNat]? with
 | none => exact Zs_sec
 | some s => exact h.1 s (List.mem_of_getElem? hq)

structure IsP (w : World) (c : LC) : Prop where
 me : w.heap[c.b.p]? = some (.cells (lookV c.b c.N c.M c.ia c.ic c.wc) 61 (0, 0))
 ci : ImgAt w c.ia c.im
 il : c.im.length = c.N
 n1 : 8 ≤ c.N
 n2 : c.N ≤ 4096
 m1 : 1 ≤ c.M
 m2 : c.M + 2 ≤ c.N
 ib : ∀ k, blkOf c.ia k → k < c.B
 b0 : c.B ≤ c.b.wb
 b1 : c.B ≤ c.b.cb
 b2 : c.B ≤ c.b.vb
 b3 : c.B ≤ c.b.tb
 b4 : c.B ≤ c.b.qb
 cv : c.b.cb ≠ c.b.vb
 ct : c.b.cb ≠ c.b.tb
 vt : c.b.vb ≠ c.b.tb
def ClOk (c : LC) (cl : Int → Bool) : Prop := ∀ x, cl x = true → (c.M : Int) < x ∧ x < c.N
structure IsW (w : World) (c : LC) (T : Img) (C : Int → Bool) : Prop where
 wt : WtAt w c.b.wb T
 wl : T.length = c.N
 cl : SetAt w c.b.cb (fun x => C x = true)
 ck : ClOk c C

section
variable {w w' : World} {c : LC} {ks : Nat → Prop} {wt : Img} {cl : Int → Bool}
theorem IsP.c0 (h : IsP w c) : w.cell? ⟨c.b.p, 0, none⟩ = some (.int .i64 c.N) := (cell_of_row _ _ _ _ _ _ h.me).trans rfl
theorem IsP.c1 (h : IsP w c) : w.cell? ⟨c.b.p, 1, none⟩ = some (.int .i64 c.M) := (cell_of_row _ _ _ _ _ _ h.me).trans rfl
theorem IsP.c2 (h : IsP w c) : w.cell? ⟨c.b.p, 2, none⟩ = some (.slice c.ia c.N c.ic) := (cell_of_row _ _ _ _ _ _ h.me).trans rfl
theorem IsP.c3 (h : IsP w c) : w.cell? ⟨c.b.p, 3, none⟩ = some (.slice (some ⟨c.b.wb, 0, none⟩) c.N c.wc) := (cell_of_row _ _ _ _ _ _ h.me).trans rfl
theorem IsP.c4 (h : IsP w c) : w.cell? ⟨c.b.p, 4, none⟩ = some (.map (some c.b.cb)) := (cell_of_row _ _ _ _ _ _ h.me).trans rfl
theorem IsP.c5 (h : IsP w c) : w.cell? ⟨c.b.p, 5, none⟩ = some (.map (some c.b.vb)) := (cell_of_row _ _ _ _ _ _ h.me).trans rfl
theorem IsP.c6 (h : IsP w c) : w.cell? ⟨c.b.p, 6, none⟩ = some (.map (some c.b.tb)) := (cell_of_row _ _ _ _ _ _ h.me).trans rfl
theorem IsP.c7 (h : IsP w c) : w.cell? ⟨c.b.p, 7, none⟩ = some (.func (.func 73) #[] #[.pointer (some ⟨c.b.qb, 0, none⟩)]) := (cell_of_row _ _ _ _ _ _ h.me).trans rfl
theorem IsP.c8 (h : IsP w c) : w.cell? ⟨c.b.p, 8, none⟩ = some (.func (.func 74) #[] #[.pointer (some ⟨c.b.qb, 0, none⟩)]) := (cell_of_row _ _ _ _ _ _ h.me).trans rfl
theorem IsP.keep (h : IsP w c) (hc : Chg w w' ks) (hp : ¬ ks c.b.p) (hi : ∀ k, ks k → c.B ≤ k) : IsP w' c :=
 ⟨hc.keep h.me hp, h.ci.keep hc (fun k hk e => by have := h.ib k hk; have := hi k e; omega), h.il, h.n1, h.n2, h.m1, h.m2, h.ib, h.b0, h.b1, h.b2, h.b3, h.b4, h.cv, h.ct, h.vt⟩
theorem IsP.call (h : IsP w c) (hc : Chg w w' No) : IsP w' c := h.keep hc (fun e => e) (fun _ e => e.elim)
theorem IsW.keep (h : IsW w c wt cl) (hc : Chg w w' ks) (h1 : ¬ ks c.b.wb) (h2 : ¬ ks c.b.cb) : IsW w' c wt cl :=
 ⟨h.wt.keep hc h1, h.wl, h.cl.keep hc h2, h.ck⟩
theorem IsW.call (h : IsW w c wt cl) (hc : Chg w w' No) : IsW w' c wt cl := h.keep hc (fun e => e) (fun e => e)
theorem SetAt.isMap {b : Nat} {S : Int → Prop} (h : SetAt w b S) : ∃ es clock, w.heap[b]? = some (.map es clock) := by
 obtain ⟨D, ⟨es, clock, h, _⟩, _⟩ := h
 exact ⟨es, clock, h⟩
theorem WtAt.isRow {g : Nat} {im : Img} (h : WtAt w g im) : ∃ A, w.heap[g]? = some (.cells A 33 (0, 0)) := by
 obtain ⟨_, A, h, _⟩ := h
 exact ⟨A, h⟩
theorem obj_ne {i j : Nat} {x y : Obj} (h : w.heap[i]? = some x) (k : w.heap[j]? = some y) (hn : x ≠ y) : i ≠ j := fun e => by
 subst e;rw [h] at k
 exact hn (Option.some.inj k)
end

end Go.Proofs.YtpmignilhoihnaaGreat
