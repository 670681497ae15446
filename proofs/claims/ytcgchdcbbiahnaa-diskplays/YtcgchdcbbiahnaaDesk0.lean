/-
  Three disks and the document's on a desk: what is known of memory, and how it stands behind what is done to one of them.
-/
import Derived.Test.YtcgchdcbbiahnaaLaw3
import Derived.Test.YtcgchdcbbiahnaaDiskQC
namespace Go.Proofs.Ytcgchdcbbiahnaa
open Go.RowKit

/-- A list that Image told, and the document's. -/
structure Im where
  a : Nat
  b : Nat
  m : Nat
  c : Nat
  L : List Int
  Y : Array Value
def Im.va (e : Im) : Value := .slice (some ⟨e.a, 0, none⟩) e.m e.m
def Im.vb (e : Im) : Value := .slice (some ⟨e.b, 0, none⟩) e.m e.c
structure ImOK (w : World) (e : Im) : Prop where
  ha : w.heap[e.a]? = some (.cells (SA e.L) 41 (0, 0))
  hb : w.heap[e.b]? = some (.cells (SA e.L ++ e.Y) 41 (0, 0))
  len : e.L.length = 128 * e.m
  top : e.m ≤ 4096

def upd {α : Type} (f : Nat → α) (t : Nat) (v : α) : Nat → α := fun i => if i = t then v else f i
theorem upd_same {α : Type} (f : Nat → α) (t : Nat) (v : α) : upd f t v t = v := by simp [upd]
theorem upd_ne {α : Type} (f : Nat → α) {t i : Nat} (v : α) (h : i ≠ t) : upd f t v i = f i := by simp [upd, h]

/-- What the desk has. -/
structure DS where
  P : Nat → Nat
  G : Nat → Nat
  N : Nat → Nat
  R : Nat → Nat
  K : Nat → Nat
  C : Nat → Nat
  X : Nat → Array Value
  D : Nat → St8
  vl : Value
  vw : Value
  ims : List Im
def ptr (b : Nat) : Value := .pointer (some ⟨b, 0, none⟩)
def deskC (s : DS) : Array Value := #[ptr (s.P 0), ptr (s.P 1), ptr (s.P 2), ptr (s.R 0), ptr (s.R 1), ptr (s.R 2), s.vl, s.vw]
/-- What of a disk is bounded. -/
def Bd2 (d : St8) (j : Nat) : Prop := 0 ≤ d.wr ∧ d.wr ≤ (j : Int) ∧ 0 ≤ d.lf ∧ d.lf ≤ 9223372036854775807
theorem Bd2.mono {d : St8} {j k : Nat} (h : Bd2 d j) (hk : j ≤ k) : Bd2 d k := ⟨h.1, by have := h.2.1; omega, h.2.2⟩
theorem Bd2.write {d : St8} {j n : Nat} {i : Int} {s : List Int} (h : Bd2 d j) : Bd2 (writeD d n i s) (j + 1) := by
  obtain ⟨h1, h2, h3, h4⟩ := h
  unfold writeD
  split
  · split
    · exact ⟨h1, by simp only; omega, h3, h4⟩
    · rename_i hc
      refine ⟨by simp only; omega, by simp only; omega, ?_, ?_⟩
      · simp only
        split
        · rename_i ha
          have : d.lf ≠ 0 := fun e => hc ⟨ha, e⟩
          omega
        · exact h3
      · simp only
        split
        · omega
        · exact h4
  · exact ⟨h1, by omega, h3, h4⟩

structure DInv (w0 w : World) (x : Nat) (s : DS) (j : Nat) : Prop where
  desk : w.heap[x]? = some (.cells (deskC s) 50 (0, 0))
  isd : ∀ k, k < 3 → IsD w (s.P k) (s.G k) (s.N k) (s.D k)
  isq : ∀ k, k < 3 → IsQ w (s.R k) (s.K k) (s.N k) (s.C k) (s.X k) (s.D k)
  pp : ∀ i k, i < 3 → k < 3 → i ≠ k → s.P i ≠ s.P k
  rr : ∀ i k, i < 3 → k < 3 → i ≠ k → s.R i ≠ s.R k
  gg : ∀ i k, i < 3 → k < 3 → i ≠ k → s.G i ≠ s.G k
  kk : ∀ i k, i < 3 → k < 3 → i ≠ k → s.K i ≠ s.K k
  gk : ∀ i k, i < 3 → k < 3 → s.G i ≠ s.K k
  im : ∀ e, e ∈ s.ims → ImOK w e
  ia : ∀ e, e ∈ s.ims → ∀ k, k < 3 → (e.a ≠ s.G k ∧ e.a ≠ s.K k) ∧ e.b ≠ s.G k ∧ e.b ≠ s.K k
  rl : w.ownsRow w0.heap.size 30 1 s.vl s.ims.length (s.ims.map Im.va)
  rw : w.ownsRow w0.heap.size 30 1 s.vw s.ims.length (s.ims.map Im.vb)
  lw : ∀ b, s.vl.ownBlock = some b → s.vw.ownBlock ≠ some b
  cnt : s.ims.length ≤ 40
  bd : ∀ k, k < 3 → Bd2 (s.D k) j
  old : Below w0.heap.size w0 w
  bx : w0.heap.size ≤ x
  bp : ∀ k, k < 3 → (w0.heap.size ≤ s.P k ∧ w0.heap.size ≤ s.G k) ∧ w0.heap.size ≤ s.R k ∧ w0.heap.size ≤ s.K k

/-- Blocks of unlike types are unlike. -/
theorem tne {w : World} {g g' : Nat} {cs cs' : Array Value} {t t' : TypeId} {f f' : Nat × Nat} (h : w.heap[g]? = some (.cells cs t f)) (h' : w.heap[g']? = some (.cells cs' t' f')) (ht : t ≠ t') : g ≠ g' := by
  intro e
  rw [e, h'] at h
  injection h with h
  injection h with _ h2
  exact ht h2.symm
theorem row_blk {w : World} {base : Nat} {e : TypeId} {k n : Nat} {v : Value} {xs : List Value} (h : w.ownsRow base e k v n xs) {b : Nat} (hb : v.ownBlock = some b) : ∃ cur, w.heap[b]? = some (.cells cur e (0, 0)) ∧ base ≤ b := by
  rcases h.2 with ⟨rfl, _⟩ | ⟨g, cap, cur, rfl, hg, hc, _⟩
  · simp [Value.ownBlock] at hb
  · have e : g = b := by simpa [Value.ownBlock] using hb
    subst e
    exact ⟨cur, hc, hg⟩
theorem row_keep {w w' : World} {base : Nat} {e : TypeId} {k n : Nat} {v : Value} {xs : List Value} {ks : List Nat} (h : w.ownsRow base e k v n xs) (hm : Mod w w' ks) (hn : ∀ b, v.ownBlock = some b → b ∉ ks) : w'.ownsRow base e k v n xs := by
  refine ⟨h.1, ?_⟩
  rcases h.2 with h | ⟨g, cap, cur, rfl, hg, hc, hr⟩
  · exact .inl h
  · exact .inr ⟨g, cap, cur, rfl, hg, by rw [hm.block g (slt hc) (hn g rfl)]; exact hc, hr⟩
theorem ImOK.keep {w w' : World} {e : Im} {ks : List Nat} (h : ImOK w e) (hm : Mod w w' ks) (ha : e.a ∉ ks) (hb : e.b ∉ ks) : ImOK w' e :=
  ⟨by rw [hm.block _ (slt h.ha) ha]; exact h.ha, by rw [hm.block _ (slt h.hb) hb]; exact h.hb, h.len, h.top⟩
theorem not4 {b p g r k : Nat} {ks : List Nat} (hks : ∀ y, y ∈ ks → y = p ∨ y = g ∨ y = r ∨ y = k) (h1 : b ≠ p) (h2 : b ≠ g) (h3 : b ≠ r) (h4 : b ≠ k) : b ∉ ks := by
  intro hb
  rcases hks b hb with e | e | e | e
  · exact h1 e
  · exact h2 e
  · exact h3 e
  · exact h4 e

/-- A call that leaves all that was there. -/
theorem DInv.call {w0 w w' : World} {x j : Nat} {s : DS} (h : DInv w0 w x s j) (hb : Below w.heap.size w w') : DInv w0 w' x s j := by
  have hm := Mod.of_below hb
  exact ⟨by rw [hb.block x (slt h.desk)]; exact h.desk, fun k hk => (h.isd k hk).call hb, fun k hk => (h.isq k hk).call hb, h.pp, h.rr, h.gg, h.kk, h.gk, fun e he => (h.im e he).keep hm (by simp) (by simp), h.ia,
    row_keep h.rl hm (fun _ _ => by simp), row_keep h.rw hm (fun _ _ => by simp), h.lw, h.cnt, h.bd, h.old.trans (hb.mono h.old.size), h.bx, h.bp⟩
theorem DInv.drew {w0 w : World} {x j : Nat} {s : DS} (h : DInv w0 w x s j) : DInv w0 w.drew x s j := h.call ⟨rfl, rfl, rfl, Nat.le_refl _, fun _ _ => rfl⟩
theorem DInv.drewN {w0 w : World} {x j : Nat} {s : DS} (h : DInv w0 w x s j) (n : Nat) : DInv w0 (w.drewN n) x s j := h.call (below_drewN w _ n)
theorem DInv.mono {w0 w : World} {x j j' : Nat} {s : DS} (h : DInv w0 w x s j) (hj : j ≤ j') : DInv w0 w x s j' :=
  ⟨h.desk, h.isd, h.isq, h.pp, h.rr, h.gg, h.kk, h.gk, h.im, h.ia, h.rl, h.rw, h.lw, h.cnt, fun k hk => (h.bd k hk).mono hj, h.old, h.bx, h.bp⟩

/-- Both disks of one place are changed alike. -/
theorem DInv.change {w0 w w' : World} {x j j' : Nat} {s : DS} (h : DInv w0 w x s j) (k : Nat) (hk : k < 3) {ks : List Nat} (hm : Mod w w' ks) (hks : ∀ y, y ∈ ks → y = s.P k ∨ y = s.G k ∨ y = s.R k ∨ y = s.K k) {d : St8}
    (hd : IsD w' (s.P k) (s.G k) (s.N k) d) (hq : IsQ w' (s.R k) (s.K k) (s.N k) (s.C k) (s.X k) d) (hb : Bd2 d j') (hj : j ≤ j') : DInv w0 w' x { s with D := upd s.D k d } j' := by
  have dP := (h.isd k hk).me
  have dG := (h.isd k hk).row
  have dR := (h.isq k hk).me
  have dK := (h.isq k hk).row
  refine ⟨?_, fun i hi => ?_, fun i hi => ?_, h.pp, h.rr, h.gg, h.kk, h.gk, fun e he => ?_, h.ia, ?_, ?_, h.lw, h.cnt, fun i hi => ?_, ?_, h.bx, h.bp⟩
  · rw [hm.block x (slt h.desk) (not4 hks (tne h.desk dP (by decide)) (tne h.desk dG (by decide)) (tne h.desk dR (by decide)) (tne h.desk dK (by decide)))]
    exact h.desk
  · show IsD w' (s.P i) (s.G i) (s.N i) (upd s.D k d i)
    by_cases c : i = k
    · subst c
      rw [upd_same]
      exact hd
    · rw [upd_ne _ _ c]
      have iP := (h.isd i hi).me
      have iG := (h.isd i hi).row
      exact (h.isd i hi).keep hm (not4 hks (h.pp i k hi hk c) (tne iP dG (by decide)) (tne iP dR (by decide)) (tne iP dK (by decide))) (not4 hks (tne iG dP (by decide)) (h.gg i k hi hk c) (tne iG dR (by decide)) (h.gk i k hi hk))
  · show IsQ w' (s.R i) (s.K i) (s.N i) (s.C i) (s.X i) (upd s.D k d i)
    by_cases c : i = k
    · subst c
      rw [upd_same]
      exact hq
    · rw [upd_ne _ _ c]
      have iR := (h.isq i hi).me
      have iK := (h.isq i hi).row
      exact (h.isq i hi).keep hm (not4 hks (tne iR dP (by decide)) (tne iR dG (by decide)) (h.rr i k hi hk c) (tne iR dK (by decide))) (not4 hks (tne iK dP (by decide)) (fun e => h.gk k i hk hi e.symm) (tne iK dR (by decide)) (h.kk i k hi hk c))
  · have o := h.im e he
    have a := h.ia e he k hk
    exact o.keep hm (not4 hks (tne o.ha dP (by decide)) a.1.1 (tne o.ha dR (by decide)) a.1.2) (not4 hks (tne o.hb dP (by decide)) a.2.1 (tne o.hb dR (by decide)) a.2.2)
  · refine row_keep h.rl hm fun b hb => ?_
    obtain ⟨cur, hc, _⟩ := row_blk h.rl hb
    exact not4 hks (tne hc dP (by decide)) (tne hc dG (by decide)) (tne hc dR (by decide)) (tne hc dK (by decide))
  · refine row_keep h.rw hm fun b hb => ?_
    obtain ⟨cur, hc, _⟩ := row_blk h.rw hb
    exact not4 hks (tne hc dP (by decide)) (tne hc dG (by decide)) (tne hc dR (by decide)) (tne hc dK (by decide))
  · show Bd2 (upd s.D k d i) j'
    by_cases c : i = k
    · subst c
      rw [upd_same]
      exact hb
    · rw [upd_ne _ _ c]
      exact (h.bd i hi).mono hj
  · refine hm.to h.old h.old.size fun y hy => ?_
    have b := h.bp k hk
    rcases hks y hy with e | e | e | e
    · rw [e]; exact b.1.1
    · rw [e]; exact b.1.2
    · rw [e]; exact b.2.1
    · rw [e]; exact b.2.2

/-- One place gets new disks. -/
theorem DInv.replace {w0 w w' : World} {x j : Nat} {s : DS} (h : DInv w0 w x s j) (t : Nat) (ht : t < 3) (hm : Mod w w' [x]) {p g n r k c : Nat} {X : Array Value} {d : St8}
    (hx : w'.heap[x]? = some (.cells (deskC { s with P := upd s.P t p, R := upd s.R t r }) 50 (0, 0)))
    (hd : IsD w' p g n d) (hq : IsQ w' r k n c X d) (hb : Bd2 d j) (hp : w.heap.size ≤ p) (hg : w.heap.size ≤ g) (hr : w.heap.size ≤ r) (hk : w.heap.size ≤ k) (hgk : g ≠ k) :
    DInv w0 w' x { s with P := upd s.P t p, G := upd s.G t g, N := upd s.N t n, R := upd s.R t r, K := upd s.K t k, C := upd s.C t c, X := upd s.X t X, D := upd s.D t d } j := by
  have lP : ∀ i, i < 3 → s.P i < w.heap.size := fun i hi => slt (h.isd i hi).me
  have lG : ∀ i, i < 3 → s.G i < w.heap.size := fun i hi => slt (h.isd i hi).row
  have lR : ∀ i, i < 3 → s.R i < w.heap.size := fun i hi => slt (h.isq i hi).me
  have lK : ∀ i, i < 3 → s.K i < w.heap.size := fun i hi => slt (h.isq i hi).row
  have dist : ∀ (f : Nat → Nat) (v : Nat), (∀ i, i < 3 → f i < w.heap.size) → w.heap.size ≤ v → (∀ i k, i < 3 → k < 3 → i ≠ k → f i ≠ f k) → ∀ i k, i < 3 → k < 3 → i ≠ k → upd f t v i ≠ upd f t v k := by
    intro f v hf hv hff i k hi hk hne
    by_cases c1 : i = t
    · subst c1
      rw [upd_same, upd_ne _ _ (fun e => hne e.symm)]
      have := hf k hk
      omega
    · rw [upd_ne _ _ c1]
      by_cases c2 : k = t
      · subst c2
        rw [upd_same]
        have := hf i hi
        omega
      · rw [upd_ne _ _ c2]
        exact hff i k hi hk hne
  refine ⟨hx, fun i hi => ?_, fun i hi => ?_, dist s.P p lP hp h.pp, dist s.R r lR hr h.rr, dist s.G g lG hg h.gg, dist s.K k lK hk h.kk, fun i l hi hl => ?_, fun e he => ?_, fun e he i hi => ?_, ?_, ?_, h.lw, h.cnt, fun i hi => ?_, ?_, h.bx, fun i hi => ?_⟩
  · show IsD w' (upd s.P t p i) (upd s.G t g i) (upd s.N t n i) (upd s.D t d i)
    by_cases c : i = t
    · subst c
      rw [upd_same, upd_same, upd_same, upd_same]
      exact hd
    · rw [upd_ne _ _ c, upd_ne _ _ c, upd_ne _ _ c, upd_ne _ _ c]
      exact (h.isd i hi).keep hm (by simpa using (tne h.desk (h.isd i hi).me (by decide)).symm) (by simpa using (tne h.desk (h.isd i hi).row (by decide)).symm)
  · show IsQ w' (upd s.R t r i) (upd s.K t k i) (upd s.N t n i) (upd s.C t c i) (upd s.X t X i) (upd s.D t d i)
    by_cases c' : i = t
    · subst c'
      rw [upd_same, upd_same, upd_same, upd_same, upd_same, upd_same]
      exact hq
    · rw [upd_ne _ _ c', upd_ne _ _ c', upd_ne _ _ c', upd_ne _ _ c', upd_ne _ _ c', upd_ne _ _ c']
      exact (h.isq i hi).keep hm (by simpa using (tne h.desk (h.isq i hi).me (by decide)).symm) (by simpa using (tne h.desk (h.isq i hi).row (by decide)).symm)
  · show upd s.G t g i ≠ upd s.K t k l
    by_cases c1 : i = t
    · subst c1
      rw [upd_same]
      by_cases c2 : l = i
      · subst c2
        rw [upd_same]
        exact hgk
      · rw [upd_ne _ _ c2]
        have := lK l hl
        omega
    · rw [upd_ne _ _ c1]
      by_cases c2 : l = t
      · subst c2
        rw [upd_same]
        have := lG i hi
        omega
      · rw [upd_ne _ _ c2]
        exact h.gk i l hi hl
  · exact (h.im e he).keep hm (by simpa using (tne h.desk (h.im e he).ha (by decide)).symm) (by simpa using (tne h.desk (h.im e he).hb (by decide)).symm)
  · show (e.a ≠ upd s.G t g i ∧ e.a ≠ upd s.K t k i) ∧ e.b ≠ upd s.G t g i ∧ e.b ≠ upd s.K t k i
    have a1 := slt (h.im e he).ha
    have a2 := slt (h.im e he).hb
    by_cases c : i = t
    · subst c
      rw [upd_same, upd_same]
      omega
    · rw [upd_ne _ _ c, upd_ne _ _ c]
      exact h.ia e he i hi
  · refine row_keep h.rl hm fun b hb => ?_
    obtain ⟨cur, hc, _⟩ := row_blk h.rl hb
    simpa using (tne h.desk hc (by decide)).symm
  · refine row_keep h.rw hm fun b hb => ?_
    obtain ⟨cur, hc, _⟩ := row_blk h.rw hb
    simpa using (tne h.desk hc (by decide)).symm
  · show Bd2 (upd s.D t d i) j
    by_cases c : i = t
    · subst c
      rw [upd_same]
      exact hb
    · rw [upd_ne _ _ c]
      exact h.bd i hi
  · exact hm.to h.old h.old.size (by simpa using h.bx)
  · show (w0.heap.size ≤ upd s.P t p i ∧ w0.heap.size ≤ upd s.G t g i) ∧ w0.heap.size ≤ upd s.R t r i ∧ w0.heap.size ≤ upd s.K t k i
    have := h.old.size
    by_cases c : i = t
    · subst c
      rw [upd_same, upd_same, upd_same, upd_same]
      omega
    · rw [upd_ne _ _ c, upd_ne _ _ c, upd_ne _ _ c, upd_ne _ _ c]
      exact h.bp i hi

/-- What is written of one place is neither the desk nor a new variable. -/
theorem DInv.apart {w0 w : World} {x j : Nat} {s : DS} (h : DInv w0 w x s j) {o : Nat} {cs : Array Value} {ob : Obj} (ho : w.heap[o]? = some (.cells cs 54 (0, 0))) (k : Nat) (hk : k < 3) :
    (∀ y, y ∈ [(x, Obj.cells (deskC s) 50 (0, 0)), (o, ob)] → y.1 ∉ [s.P k, s.G k]) ∧ (∀ y, y ∈ [(x, Obj.cells (deskC s) 50 (0, 0)), (o, ob)] → y.1 ∉ [s.R k, s.K k]) := by
  have dP := (h.isd k hk).me
  have dG := (h.isd k hk).row
  have dR := (h.isq k hk).me
  have dK := (h.isq k hk).row
  have a1 := tne h.desk dP (by decide)
  have a2 := tne h.desk dG (by decide)
  have a3 := tne h.desk dR (by decide)
  have a4 := tne h.desk dK (by decide)
  have b1 := tne ho dP (by decide)
  have b2 := tne ho dG (by decide)
  have b3 := tne ho dR (by decide)
  have b4 := tne ho dK (by decide)
  constructor
  · intro y hy
    rcases List.mem_cons.1 hy with e | e
    · rw [e]; simp [a1, a2]
    · rw [List.mem_singleton.1 e]; simp [b1, b2]
  · intro y hy
    rcases List.mem_cons.1 hy with e | e
    · rw [e]; simp [a3, a4]
    · rw [List.mem_singleton.1 e]; simp [b3, b4]
theorem DInv.lows {w0 w : World} {x j : Nat} {s : DS} (h : DInv w0 w x s j) (k : Nat) (hk : k < 3) : (∀ y, y ∈ [s.P k, s.G k] → w0.heap.size ≤ y) ∧ (∀ y, y ∈ [s.R k, s.K k] → w0.heap.size ≤ y) := by
  have := h.bp k hk
  constructor <;> intro y hy <;> simp at hy <;> omega
theorem DInv.aRK {w0 w : World} {x j : Nat} {s : DS} (h : DInv w0 w x s j) (k : Nat) (hk : k < 3) : s.R k ∉ [s.P k, s.G k] ∧ s.K k ∉ [s.P k, s.G k] := by
  have dP := (h.isd k hk).me
  have dG := (h.isd k hk).row
  have dR := (h.isq k hk).me
  have dK := (h.isq k hk).row
  have a1 := tne dR dP (by decide)
  have a2 := tne dR dG (by decide)
  have a3 := tne dK dP (by decide)
  have a4 := (h.gk k k hk hk).symm
  constructor
  · simp [a1, a2]
  · simp [a3, a4]
theorem DInv.aPG {w0 w : World} {x j : Nat} {s : DS} (h : DInv w0 w x s j) (k : Nat) (hk : k < 3) : s.P k ∉ [s.R k, s.K k] ∧ s.G k ∉ [s.R k, s.K k] := by
  have dP := (h.isd k hk).me
  have dG := (h.isd k hk).row
  have dR := (h.isq k hk).me
  have dK := (h.isq k hk).row
  have a1 := tne dP dR (by decide)
  have a2 := tne dP dK (by decide)
  have a3 := tne dG dR (by decide)
  have a4 := h.gk k k hk hk
  constructor
  · simp [a1, a2]
  · simp [a3, a4]

/-- The desk's cells. -/
theorem desk_cP {w : World} {x : Nat} {s : DS} (h : w.heap[x]? = some (.cells (deskC s) 50 (0, 0))) (k : Nat) (hk : k < 3) : w.cell? ⟨x, k, none⟩ = some (.pointer (some ⟨s.P k, 0, none⟩)) := by
  rw [cell_of_row _ _ _ _ _ _ h]
  match k, hk with
  | 0, _ => rfl
  | 1, _ => rfl
  | 2, _ => rfl
theorem desk_cR {w : World} {x : Nat} {s : DS} (h : w.heap[x]? = some (.cells (deskC s) 50 (0, 0))) (k : Nat) (hk : k < 3) : w.cell? ⟨x, 3 + k, none⟩ = some (.pointer (some ⟨s.R k, 0, none⟩)) := by
  rw [cell_of_row _ _ _ _ _ _ h]
  match k, hk with
  | 0, _ => rfl
  | 1, _ => rfl
  | 2, _ => rfl
theorem DInv.cP {w0 w : World} {x j : Nat} {s : DS} (h : DInv w0 w x s j) (k : Nat) (hk : k < 3) : w.cell? ⟨x, k, none⟩ = some (.pointer (some ⟨s.P k, 0, none⟩)) := desk_cP h.desk k hk
theorem DInv.cR {w0 w : World} {x j : Nat} {s : DS} (h : DInv w0 w x s j) (k : Nat) (hk : k < 3) : w.cell? ⟨x, 3 + k, none⟩ = some (.pointer (some ⟨s.R k, 0, none⟩)) := desk_cR h.desk k hk
theorem DInv.c6 {w0 w : World} {x j : Nat} {s : DS} (h : DInv w0 w x s j) : w.cell? ⟨x, 6, none⟩ = some s.vl := by rw [cell_of_row _ _ _ _ _ _ h.desk]; rfl
theorem DInv.c7 {w0 w : World} {x j : Nat} {s : DS} (h : DInv w0 w x s j) : w.cell? ⟨x, 7, none⟩ = some s.vw := by rw [cell_of_row _ _ _ _ _ _ h.desk]; rfl
theorem DInv.fz {w0 w : World} {x j : Nat} {s : DS} (h : DInv w0 w x s j) (i : Nat) : w.frozen? ⟨x, i, none⟩ = false := frozen_of_row w x i _ _ h.desk

set_option maxRecDepth 100000 in
set_option maxHeartbeats 2000000 in
theorem tells_any {w0 : World} {x j : Nat} {s : DS} (w : World) (h : DInv w0 w x s j) : Calls Try.prog 26 #[.pointer (some ⟨x, 0, none⟩)] w fun e w' => e = .returned (.bool true) ∧ w' = w := by
  have H := hid h
  clear h
  go_enter Try.func26, Try.ntmps26
  go_wp2_with fail
  go_loopw [3] (fun i wr => ∃ k : Nat, k ≤ 3 ∧ i = .int .i64 k ∧ w = wr) (fun i _ => 3 - (intOf i).toNat)
  case atStart => exact ⟨0, by omega, rfl, rfl⟩
  case round =>
    obtain ⟨k, hk, rfl, rfl⟩ := hrel
    by_cases hlt : k < 3
    · have c1 := H.out.cP k hlt
      have c2 := H.out.cR k hlt
      have HD := hid (H.out.isd k hlt)
      have HQ := hid (H.out.isq k hlt)
      have q1 := HQ.out.c1
      have q4 := HQ.out.c4
      have hkl : (k : Int) < 3 := by omega
      clear hlt
      go_wp2_with (first | (go_at_call 15; refine (len_any _ HD.out).mono ?_; rintro e w9 ⟨rfl, rfl⟩) | (go_at_call 16; refine (writes_any _ HD.out).mono ?_; rintro e w9 ⟨rfl, rfl⟩) | (go_at_call 17; refine (down_any _ HD.out).mono ?_; rintro e w9 ⟨rfl, rfl⟩) | (go_at_call 40; refine (rlen_any _ HQ.out).mono ?_; rintro e w9 ⟨rfl, rfl⟩))
      exact ⟨⟨k + 1, by omega, by go_num, trivial⟩, by simp [intOf]; omega⟩
    · go_wp2_with fail
      go_ret
      exact ⟨rfl, rfl⟩

end Go.Proofs.Ytcgchdcbbiahnaa
