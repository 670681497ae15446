/-
  writeAll: of a list again and again the first one that may land is written.
-/
import Derived.Test.YtamoepninddbcaaGreatCache2
import Derived.Test.YtamoepninddbcaaGreatGraph4
namespace Go.Proofs.YtamoepninddbcaaGreat
open Go.RowKit Go.Sort Go.Lib

variable {w : World} {c p g n : Nat} {ρ : Nat → Option Role} {z : CSt}

/-- Where the first free one of a list stands. -/
def FirstFree (E : Int → Int → Prop) (l : List Int) (k : Nat) : Prop := k < l.length ∧ FreeE E (l.getD k 0) ∧ ∀ j, j < k → ¬ FreeE E (l.getD j 0)

set_option maxRecDepth 100000 in
set_option maxHeartbeats 1000000 in
theorem idxFree_any {gp : Nat} {go : Nat → Prop} {E : Int → Int → Prop} (l : List Int) (a : Option Addr) (ca : Nat) (h : IsG w gp go E) (hl : LAt w a l) (hm : l.length ≤ 17592186044000) (hI : ∀ k, k < l.length → I64 (l.getD k 0)) (hex : ∃ k, k < l.length ∧ FreeE E (l.getD k 0)) :
    Calls Tryz.prog 104 #[.slice a l.length ca, .func (.func 62) #[.pointer (some ⟨gp, 0, none⟩)] #[]] w fun e w' => ∃ k : Nat, e = .returned (.int .i64 k) ∧ FirstFree E l k ∧ w = w' := by
  have HF := hid (fun (x : Int) (hx : I64 x) => free_any x h hx)
  have HA := hid hl
  have HI := hid hI
  have HX := hid hex
  clear h hl hI hex
  generalize hlen : l.length = m at *
  go_enter Tryz.func104, Tryz.ntmps104
  go_wp2_with fail
  go_loopw [5, 8] (fun _ i wr => ∃ k : Nat, k ≤ m ∧ i = .int .i64 k ∧ w = wr ∧ Hid (∀ j, j < k → ¬ FreeE E (l.getD j 0))) (fun _ i _ => m - (intOf i).toNat)
  case atStart => exact ⟨0, by omega, rfl, rfl, fun j hj => absurd hj (by omega)⟩
  case round =>
    obtain ⟨k, hk, rfl, rfl, hall⟩ := hrel
    by_cases hlt : k < m
    · rcases HA.out with h0 | ⟨g1, rfl, hg1, h1⟩
      · rw [h0] at hlen; simp at hlen; omega
      · have p1 := h1 k (by omega)
        have HC := HF.out (l.getD k 0) (HI.out k hlt)
        generalize hx : l.getD k 0 = x at *
        have HXe := hid hx
        have hi0 : (0 : Int) ≤ (k : Int) := by omega
        have hi1 : (k : Int) < (m : Int) := by omega
        clear h1 hx
        go_wp2_with (first
          | (go_at_call 62; go_must (refine HC.mono ?_; rintro e w1 ⟨r, rfl, hr, rfl⟩))
          | go_in)
        · go_ret
          have hr1 := hr.1 (by assumption)
          exact ⟨k, rfl, ⟨by omega, by rw [HXe.out]; exact hr1, hall.out⟩, rfl⟩
        · have hrf : ¬ FreeE E x := fun e => by
            have := hr.2 e
            simp_all
          refine ⟨⟨k + 1, by omega, by go_num, trivial, fun j hj => ?_⟩, by simp [intOf]; omega⟩
          by_cases e : j = k
          · subst e
            rw [HXe.out]
            exact hrf
          · exact hall.out j (by omega)
    · obtain ⟨k2, hk2, hf2⟩ := HX.out
      exact absurd hf2 (hall.out k2 (by omega))

section
variable {α : Type} [Inhabited α] {enc : α → Value} {g q : Nat}
theorem putRow_heap {w : World} {cur : Array Value} {e : TypeId} {fr : Nat × Nat} (d : Array α) (hb : w.heap[g]? = some (.cells cur e fr)) : (putRow enc (Sort.ahead w q) g 0 d).heap[g]? = some (.cells (putCells enc 0 d cur) e fr) := by
  simp [putRow, mapBlock, Sort.ahead, Array.getElem?_modify, hb, onCells]
theorem putRow_chg {w : World} (d : Array α) : Chg w (putRow enc (Sort.ahead w q) g 0 d) (· = g) := by
  refine ⟨rfl, rfl, rfl, by simp [putRow, mapBlock, Sort.ahead], fun k hk hne => ?_⟩
  have : g ≠ k := fun e => hne e.symm
  simp [putRow, mapBlock, Sort.ahead, Array.getElem?_modify, this]
end
/-- A list of one's own of which a piece is taken, behind which there is something. -/
theorem ints_put {w : World} {g q cap base : Nat} {cur : Array Value} (m r : List Int) (hge : base ≤ g) (hb : w.heap[g]? = some (.cells cur 3 (0, 0))) (h1 : m.length + r.length ≤ cap) (h2 : cap ≤ maxLen) (h3 : cur.size = cap * 1) :
    Ints (putRow (Value.int .i64) (Sort.ahead w q) g 0 (m ++ r).toArray) base (.slice (some ⟨g, 0, none⟩) m.length cap) m := by
  refine ⟨by simp, .inr ⟨g, cap, _, rfl, hge, putRow_heap _ hb, by omega, h2, by simp [putCells, h3], ?_⟩⟩
  have h := sorted_take (enc := Value.int .i64) cur (m ++ r) (by rw [List.length_append, h3]; omega)
  have e : (List.take (m ++ r).length (putCells (Value.int .i64) 0 (m ++ r).toArray cur).toList).take m.length = ((m ++ r).map (Value.int .i64)).take m.length := by rw [h]
  rw [List.take_take, Nat.min_eq_left (by simp)] at e
  rw [Nat.mul_one, e, List.map_append]
  have : m.length = (m.map (Value.int .i64)).length := by simp
  rw [this, List.take_left]

theorem deleteI_any (w : World) (base : Nat) (v : Value) (l : List Int) (k : Nat) (h : Ints w base v l) (hk : k < l.length) (hm : l.length ≤ 17592186044000) :
    Calls Tryz.prog 105 #[v, .int .i64 k, .int .i64 ((k : Int) + 1)] w fun e w' => ∃ v', e = .returned v' ∧ Ints w' base v' (l.eraseIdx k) ∧ Chg w w' (fun j => v.ownBlock = some j) ∧ v'.ownBlock = v.ownBlock := by
  rcases h.2 with ⟨rfl, h0⟩ | ⟨g, cap, cur, rfl, hge, hb, h1, h2, h3, h4⟩
  · omega
  · have hH : Holds (Value.int .i64) w g 0 l.toArray := row_holds hb (by rw [← h4, Nat.mul_one])
    obtain ⟨i, hi, hz, hsz, hby⟩ := infoI
    have hc := AnyE.slices_Delete layDel (Value.int .i64) (fun _ => rfl) (0 : Int) Tryz.zeroValue3 i hi hsz g 0 cap k (k + 1) l.toArray w hH (by simpa using h1) (by unfold maxLen at h2; omega) (by omega) (by simp; omega)
    change Calls Tryz.prog 105 _ _ _ at hc
    rw [show l.toArray.size = l.length by simp, show ((k + 1 : Nat) : Int) = (k : Int) + 1 by omega] at hc
    refine hc.mono ?_
    rintro e w' ⟨rfl, q, rfl⟩
    have hle : (l.eraseIdx k).length = l.length - 1 := by rw [List.length_eraseIdx, if_pos hk]
    have hd : (l.toArray.toList.take k ++ l.toArray.toList.drop (k + 1) ++ List.replicate (k + 1 - k) (0 : Int)).toArray = (l.eraseIdx k ++ [0]).toArray := by
      rw [List.eraseIdx_eq_take_drop_succ]
      simp
    rw [hd]
    have hr := ints_put (q := q) (l.eraseIdx k) [0] hge hb (by rw [hle]; simp; omega) h2 h3
    rw [hle] at hr
    refine ⟨_, rfl, ?_, (putRow_chg _).mono fun j _ e => by rw [e]; rfl, rfl⟩
    rw [show l.length - (k + 1 - k) = l.length - 1 by omega]
    exact hr

theorem find_first {E : Int → Int → Prop} : ∀ (l : List Int) (k : Nat), FirstFree E l k → (open Classical in l.find? (fun x => decide (FreeE E x))) = some (l.getD k 0)
  | [], k, h => absurd h.1 (by simp)
  | y :: l, 0, h => by
    have := h.2.1
    simp at this
    simp [this]
  | y :: l, k + 1, h => by
    have h0 := h.2.2 0 (by omega)
    simp at h0
    have := find_first l k ⟨by have := h.1; simp at this; omega, by simpa using h.2.1, fun j hj => by have := h.2.2 (j + 1) (by omega); simpa using this⟩
    simp [h0]
    simpa using this
theorem erase_idx : ∀ (l : List Int) (k : Nat), l.Pairwise (· ≠ ·) → k < l.length → l.erase (l.getD k 0) = l.eraseIdx k
  | [], k, _, h => absurd h (by simp)
  | y :: l, 0, _, _ => by simp
  | y :: l, k + 1, hp, h => by
    obtain ⟨h1, h2⟩ := List.pairwise_cons.1 hp
    have hk : k < l.length := by simpa using h
    have hm : l.getD k 0 ∈ l := by rw [List.getD_eq_getElem?_getD, List.getElem?_eq_getElem hk]; exact List.getElem_mem hk
    have hne := h1 _ hm
    have := erase_idx l k h2 hk
    simp only [List.getD_cons_succ, List.eraseIdx_cons_succ]
    rw [List.erase_cons_tail (by simpa using hne), this]
theorem getD_mem {l : List Int} {k : Nat} (hk : k < l.length) : l.getD k 0 ∈ l := by
  rw [List.getD_eq_getElem?_getD, List.getElem?_eq_getElem hk]; exact List.getElem_mem hk
theorem nodup_mem_erase {l : List Int} (h : l.Pairwise (· ≠ ·)) {x y : Int} : y ∈ l.erase x ↔ y ≠ x ∧ y ∈ l := by
  have : l.Nodup := h
  rw [this.mem_erase_iff]

/-- What is known of a list of sectors that are to be written. -/
structure ToDo (n : Nat) (z : CSt) (l : List Int) : Prop where
  nd : l.Pairwise (· ≠ ·)
  di : ∀ x, x ∈ l → z.dirty x
  cl : ∀ a b, z.E a b → b ∈ l → a ∈ l
  tb : TB z
  wr : z.d.wr + l.length < 4611686018427387904
  ln : l.length ≤ 5000

theorem wrC_zero {x : Int} (h : (wrC n z x).2 = 0) (hx : z.dirty x) (hok : 0 ≤ x ∧ x < n) : ∃ q, z.P x = some q ∧ z.lost = false ∧ (wrC n z x).1 = forC ⟨D.writeD z.d n x q.1, z.E, z.P, z.ld ++ q.2, z.lost⟩ x := by
  obtain ⟨q, hq⟩ := Option.isSome_iff_exists.1 hx
  cases hlo : z.lost with
  | true =>
    unfold wrC at h
    rw [if_pos hlo] at h
    cases h
  | false =>
    rcases writeE_cases z.d n x hok.1 hok.2 with he | he
    · refine ⟨q, hq, rfl, ?_⟩
      rw [wrC_done hlo hq he, hlo]
    · rw [wrC_down hlo hq he] at h
      cases h
theorem ToDo.next {l : List Int} {x : Int} (h : ToDo n z l) (hi : CInv n z) (hx : x ∈ l) (h0 : (wrC n z x).2 = 0) : ToDo n (wrC n z x).1 (l.erase x) := by
  obtain ⟨q, hq, hlo, e⟩ := wrC_zero h0 (h.di x hx) (hi.ok x (h.di x hx))
  have hlen := List.length_erase_of_mem hx
  have hpos := List.length_pos_of_mem hx
  have hwr := wrC_wr (n := n) (z := z) x
  refine ⟨List.Pairwise.erase x h.nd, fun y hy => ?_, fun a b hE hb => ?_, wrC_tb hi x h.tb, ?_, ?_⟩
  · rw [nodup_mem_erase h.nd] at hy
    rw [e]
    unfold CSt.dirty forC
    simp only
    rw [if_neg hy.1]
    exact h.di y hy.2
  · rw [e] at hE
    have hE : delE z.E x a b := hE
    rw [nodup_mem_erase h.nd] at hb ⊢
    exact ⟨hE.2.1, h.cl a b hE.1 hb.2⟩
  · have := h.wr
    omega
  · have := h.ln
    omega
theorem wAll_step {l : List Int} {k : Nat} (hf : FirstFree z.E l k) : wAll n l.length z l = if (wrC n z (l.getD k 0)).2 = 0 then wAll n (l.erase (l.getD k 0)).length (wrC n z (l.getD k 0)).1 (l.erase (l.getD k 0)) else wrC n z (l.getD k 0) := by
  have hm := getD_mem hf.1
  have hlen := List.length_erase_of_mem hm
  obtain ⟨j, hj⟩ : ∃ j, l.length = j + 1 := ⟨l.length - 1, by have := hf.1; omega⟩
  rw [hj, wAll, find_first l k hf]
  simp only
  rw [show (l.erase (l.getD k 0)).length = j by omega]
theorem ToDo.free {l : List Int} (h : ToDo n z l) (hi : CInv n z) (hl : l ≠ []) : ∃ k, k < l.length ∧ FreeE z.E (l.getD k 0) := by
  obtain ⟨x, hx, hf⟩ := free_in hi hl h.cl
  obtain ⟨k, hk, e⟩ := List.getElem_of_mem hx
  refine ⟨k, hk, ?_⟩
  rw [List.getD_eq_getElem?_getD, List.getElem?_eq_getElem hk, e]
  exact hf

/-- What stands behind a call that was handed a list of the caller's own, which it uses up. -/
def LPost (w w' : World) (c p g n : Nat) (ρ : Nat → Option Role) (v : Value) (z' : CSt) : Prop :=
  ∃ ρ', IsC w' c p g n ρ' z' ∧ (∀ k, Own ρ' k → Own ρ k ∨ w.heap.size ≤ k) ∧ Chg w w' (fun k => Own ρ k ∨ v.ownBlock = some k)
def lenV : Value → Nat
  | .slice _ n _ => n
  | _ => 0

set_option maxRecDepth 100000 in
set_option maxHeartbeats 2000000 in
theorem writeAll_any (l : List Int) (v : Value) (base : Nat) (h : IsC w c p g n ρ z) (hv : Ints w base v l) (ho : ∀ k, v.ownBlock = some k → ¬ Own ρ k) (ht : ToDo n z l) :
    Calls Tryz.prog 77 #[.pointer (some ⟨c, 0, none⟩), v] w fun e w' => e = .returned (.int .i64 (wAll n l.length z l).2) ∧ LPost w w' c p g n ρ v (wAll n l.length z l).1 := by
  have hmf : ∀ (fn : Fn) (first cap : Array Value) (w : World), (Instr.makeFunc fn first cap).run Tryz.prog w = .ok (.func fn first cap) w := fun _ _ _ _ => rfl
  have HH := hid (And.intro h (And.intro hv (And.intro ho ht)))
  have HVO := hid (show ∀ k, v.ownBlock = some k → base ≤ k ∧ k < w.heap.size from fun k hk => row_ge hv hk)
  clear h hv ho ht
  generalize hR : wAll n l.length z l = R at *
  have HRR := hid hR
  clear hR
  go_enter Tryz.func77, Tryz.ntmps77
  go_wp2_with fail
  go_loopw [1, 5, 6] (fun v1 _ _ wr => ∃ (l1 : List Int) (z1 : CSt) (ρ1 : Nat → Option Role) (wq : World), wq = wr ∧ IsC wq c p g n ρ1 z1 ∧ Ints wq base v1 l1 ∧ v1.ownBlock = v.ownBlock ∧ (∀ k, v.ownBlock = some k → ¬ Own ρ1 k) ∧ ToDo n z1 l1 ∧ Hid (wAll n l1.length z1 l1 = R) ∧ (∀ k, Own ρ1 k → Own ρ k ∨ w.heap.size ≤ k) ∧ Chg w wq (fun k => Own ρ k ∨ v.ownBlock = some k)) (fun v1 _ _ _ => lenV v1)
  case atStart =>
    obtain ⟨h, hv, ho, ht⟩ := HH.out
    exact ⟨l, z, ρ, w, rfl, h, hv, rfl, ho, ht, HRR, fun _ k => .inl k, Chg.refl _ _⟩
  case round =>
    obtain ⟨l1, z1, ρ1, wA, rfl, h1, hv1, hob, hn1, ht1, hR1, ho1, hc1⟩ := hrel
    obtain ⟨a1, ca1, rfl, hlat, _⟩ := hv1.lat
    by_cases hl : l1 = []
    · subst hl
      have e : R = (z1, 0) := hR1.out.symm
      have HE := hid e
      have H1 := hid (And.intro h1 (And.intro ho1 hc1))
      clear hR1 HRR e h1 hv1 ht1 ho1 hc1
      simp only [List.length_nil]
      go_wp2_with fail
      go_ret
      rw [HE.out]
      exact ⟨rfl, ρ1, H1.out.1, H1.out.2.1, H1.out.2.2⟩
    · have hpos : 0 < l1.length := List.length_pos_iff.2 hl
      have hposi : (0 : Int) < (l1.length : Int) := by omega
      have hinv := h1.inv
      have hI : ∀ k, k < l1.length → I64 (l1.getD k 0) := fun k hk => by
        have := hinv.ok _ (ht1.di _ (getD_mem hk))
        have := hinv.top
        exact ⟨by omega, by omega⟩
      obtain ⟨gp, mb, go, tv, lv, h10⟩ := h1
      have k1 := h10.c1
      have HX := idxFree_any l1 a1 ca1 h10.gr hlat (by have := ht1.ln; omega) hI (ht1.free hinv hl)
      have H1 := hid (And.intro h10 (And.intro ho1 hc1))
      have HV := hid hv1
      have HT := hid ht1
      have HI := hid hinv
      have HLat := hid hlat
      have hlen := ht1.ln
      clear h10 hv1 ht1 ho1 hc1 hI hinv hlat
      go_wp2_with (first
        | (go_at_call 104; go_must (refine HX.mono ?_; rintro e w1 ⟨k, rfl, hk, rfl⟩; clear HX))
        | fail)
      have hkl := hk.1
      have HK := hid hk
      have hki0 : (0 : Int) ≤ (k : Int) := by omega
      have hki1 : (k : Int) < (l1.length : Int) := by omega
      rcases HLat.out with h0 | ⟨g1, rfl, hg1, hcell⟩
      · exact absurd h0 hl
      have p1 := hcell k hkl
      have hmem := getD_mem hkl
      have HW := writeC_any (l1.getD k 0) ⟨gp, mb, go, tv, lv, H1.out.1⟩ (HT.out.di _ hmem) HT.out.tb (by have := HT.out.wr; omega)
      have hstep := wAll_step (n := n) hk
      rw [hR1.out] at hstep
      have hnx := HT.out.next HI.out hmem
      have herase := erase_idx l1 k HT.out.nd hkl
      generalize hxe : l1.getD k 0 = x at *
      have HStep := hid hstep
      have HNX := hid hnx
      have HME := hid hmem
      have HER := hid herase
      have hwi := wrC_inv HI.out x
      clear hk hcell hstep hnx hmem hxe herase
      generalize hwr : wrC n z1 x = r at *
      obtain ⟨z2, e2⟩ := r
      have HWI := hid hwi
      clear hwi
      by_cases he2 : e2 = 0
      · subst he2
        have hn2 := HNX.out rfl
        have hs2 := HStep.out
        simp only [if_true] at hs2
        have HN2 := hid hn2
        have HS2 := hid hs2
        clear HStep HNX hn2 hs2 hwr
        go_wp2_with (first
          | (go_at_call 63; go_must (refine HW.mono ?_; rintro e w2 ⟨rfl, ρ2, hC2, ho2, hg2⟩; have hv2 := row_keep HV.out hg2 (fun j hj => hn1 j (by rw [← hob]; exact hj)); have HD := deleteI_any w2 base _ l1 k hv2 hkl (by omega); have HC2 := hid (And.intro hC2 (And.intro ho2 hg2)); clear hC2 ho2 hg2 hv2 HW))
          | (go_at_call 105; go_must (refine HD.mono ?_; rintro e w3 ⟨v3, rfl, hv3, hg3, hb3⟩))
          | fail)
        obtain ⟨hC2, ho2, hg2⟩ := HC2.out
        obtain ⟨hA1, hoA, hcA⟩ := H1.out
        rw [← HER.out] at hv3
        have hb30 : v3.ownBlock = v.ownBlock := hb3.trans hob
        have hszA := hcA.size
        have hsz2 := hg2.size
        have hno2 : ∀ k, v.ownBlock = some k → ¬ Own ρ2 k := fun k hk ho => by
          rcases ho2 k ho with e | e
          · exact hn1 k hk e
          · have := (HVO.out k hk).2
            omega
        obtain ⟨a3, ca3, rfl, _, _⟩ := hv3.lat
        refine ⟨⟨l1.erase x, z2, ρ2, w3, rfl, hC2.keep hg3 (fun j hj e => hno2 j (by rw [← hob]; exact e) hj), hv3, hb30, hno2, HN2.out, hid HS2.out.symm, fun k hk => ?_, ?_⟩, ?_⟩
        · rcases ho2 k hk with e | e
          · exact hoA k e
          · exact .inr (by omega)
        · refine hcA.trans (hg2.trans hg3 (c := fun j => Own ρ1 j ∨ v.ownBlock = some j) (fun _ _ e => .inl e) (fun _ _ e => .inr (by rw [← hob]; exact e))) (fun _ _ e => e) (fun j hj e => ?_)
          rcases e with e | e
          · rcases hoA j e with e | e
            · exact .inl e
            · omega
          · exact .inr e
        · have := List.length_erase_of_mem HME.out
          simp only [lenV]
          omega
      · have hs2 := HStep.out
        have he2' : ¬ e2 = 0 := he2
        rw [if_neg he2] at hs2
        have HS2 := hid hs2
        have hb2 : (e2 != 0) = true := by simpa using he2
        clear HStep HNX hs2 hwr
        go_wp2_with (first
          | (go_at_call 63; go_must (refine HW.mono ?_; rintro e w2 ⟨rfl, hP2⟩; have HP2 := hid hP2; clear hP2 HW))
          | fail)
        go_ret
        obtain ⟨hA1, hoA, hcA⟩ := H1.out
        rw [HS2.out]
        obtain ⟨ρ2, hC2, ho2, hg2⟩ := HP2.out
        have hszA := hcA.size
        refine ⟨rfl, ρ2, hC2, fun k hk => ?_, hcA.trans hg2 (fun _ _ e => e) (fun j hj e => ?_)⟩
        · rcases ho2 k hk with e | e
          · exact hoA k e
          · exact .inr (by omega)
        · rcases hoA j e with e | e
          · exact .inl e
          · omega

end Go.Proofs.YtamoepninddbcaaGreat
