/-
  A look, as functions over lists: what is claimed, how an inode is taken up, how a directory is gone through.
-/
import Derived.Test.YtboammbcoleicaaGreatLaws
import Derived.Test.YtboammbcoleicaaGreatLD
namespace Go.Proofs.YtboammbcoleicaaGreat
open Go.RowKit

/-- The sector behind k rounds. -/
def wipK (s : List Int) (from_ : Int) : Nat → List Int
  | 0 => s
  | k + 1 => if from_ ≤ (k : Int) then (wipK s from_ k).set k 0 else wipK s from_ k
theorem wipK_len (s : List Int) (f : Int) : ∀ k, (wipK s f k).length = s.length
  | 0 => rfl
  | k + 1 => by
    simp only [wipK]
    split
    · rw [List.length_set, wipK_len s f k]
    · exact wipK_len s f k
def wip (s : List Int) (f : Int) : List Int := wipK s f 128
theorem wip_len (s : List Int) (f : Int) (h : s.length = 128) : (wip s f).length = 128 := by rw [wip, wipK_len, h]
theorem wipK_get (s : List Int) (f : Int) : ∀ k : Nat, k ≤ s.length → ∀ i : Nat, (wipK s f k).getD i 0 = if i < k ∧ f ≤ (i : Int) then 0 else s.getD i 0
  | 0, _, i => by rw [if_neg (by omega)]; rfl
  | k + 1, h, i => by
    have ih := wipK_get s f k (by omega) i
    simp only [wipK]
    split
    · rename_i hf
      have hk : k < (wipK s f k).length := by rw [wipK_len]; omega
      simp only [List.getD_eq_getElem?_getD, List.getElem?_set] at *
      by_cases e : k = i
      · subst e; rw [if_pos rfl, if_pos hk, if_pos ⟨by omega, hf⟩]; rfl
      · rw [if_neg e, ih]
        by_cases c : i < k ∧ f ≤ (i : Int)
        · rw [if_pos c, if_pos ⟨by omega, c.2⟩]
        · rw [if_neg c, if_neg (by omega)]
    · rename_i hf
      rw [ih]
      by_cases c : i < k ∧ f ≤ (i : Int)
      · rw [if_pos c, if_pos ⟨by omega, c.2⟩]
      · rw [if_neg c]
        by_cases c' : i < k + 1 ∧ f ≤ (i : Int)
        · have : i = k := by omega
          subst this
          exact absurd c'.2 hf
        · rw [if_neg c']
theorem wip_get (s : List Int) (f : Int) (h : s.length = 128) (i : Nat) : (wip s f).getD i 0 = if f ≤ (i : Int) then 0 else s.getD i 0 := by
  rw [wip, wipK_get s f 128 (by omega) i]
  by_cases hi : i < 128
  · by_cases c : f ≤ (i : Int)
    · rw [if_pos ⟨hi, c⟩, if_pos c]
    · rw [if_neg (fun k => c k.2), if_neg c]
  · have e : s.getD i 0 = 0 := by simp [List.getD_eq_getElem?_getD, List.getElem?_eq_none (by omega : s.length ≤ i)]
    rw [if_neg (by omega), e]
    split <;> rfl
theorem wip_sec {s : List Int} (hs : IsSec s) (f : Int) : IsSec (wip s f) := by
  refine ⟨wip_len s f hs.1, fun x hx => ?_⟩
  obtain ⟨i, hi, rfl⟩ := List.getElem_of_mem hx
  have e : (wip s f)[i] = (wip s f).getD i 0 := by simp [hi]
  rw [e, wip_get s f hs.1 i]
  split
  · omega
  · exact hs.at i

set_option maxRecDepth 100000 in
set_option maxHeartbeats 400000 in
theorem wipe_any (s : List Int) (f : Int) (w : World) (hs : s.length = 128) :
    Calls Tryz.prog 143 #[.agg (SA s), .int .i64 f] w fun e w' => e = .returned (.agg (SA (wip s f))) ∧ Below w.heap.size w w' := by
  have hz := zero_sec
  have HO : Hid (((w.alloc (.cells (SA s) 40)).alloc (.cells (SA Zs) 40)).heap[w.heap.size]? = some (.cells (SA s) 40 (0, 0))) := heap_alloc2_old w _ _
  have HN : Hid (((w.alloc (.cells (SA s) 40)).alloc (.cells (SA Zs) 40)).heap[w.heap.size + 1]? = some (.cells (SA Zs) 40 (0, 0))) := heap_alloc2_new w _ _
  have hb : Below w.heap.size w ((w.alloc (.cells (SA s) 40)).alloc (.cells (SA Zs) 40)) := ((Below.refl _ _).alloc (Nat.le_refl _) _).alloc (by simp) _
  go_enter Tryz.func143, Tryz.ntmps143
  go_wp2
  go_loopw [6] (fun i wr => ∃ k : Nat, k ≤ 128 ∧ i = .int .i64 k ∧ Hid (wr.heap[w.heap.size]? = some (.cells (SA (wipK s f k)) 40 (0, 0))) ∧ Hid (wr.heap[w.heap.size + 1]? = some (.cells (SA Zs) 40 (0, 0))) ∧ Below w.heap.size w wr) (fun i _ => 128 - (intOf i).toNat)
  case atStart => exact ⟨0, by omega, rfl, HO, HN, hb⟩
  case round =>
    obtain ⟨k, hk, rfl, H1, H2, h3⟩ := hrel
    by_cases hlt : k < 128
    · by_cases c : f ≤ (k : Int)
      · have hc := sec_cell H1.out k (by rw [wipK_len]; omega)
        have hf := sec_free H1.out k
        have E : Hid ((wipK s f k).set k 0 = wipK s f (k + 1)) := by show _ = _; simp only [wipK]; rw [if_pos c]
        go_wp2
        have hw := sec_setCell H1.out k 0
        rw [E.out] at hw
        exact ⟨⟨k + 1, by omega, by go_num, hw.here, by show _ = _; rw [hw.other _ (by omega)]; exact H2.out, hw.below h3 (by omega)⟩, by simp [intOf]; omega⟩
      · have E : Hid (wipK s f k = wipK s f (k + 1)) := by show _ = _; simp only [wipK]; rw [if_neg c]
        go_wp2
        exact ⟨⟨k + 1, by omega, by go_num, by rw [← E.out]; exact H1, H2, h3⟩, by simp [intOf]; omega⟩
    · have e : k = 128 := by omega
      subst e
      have hlen : (wipK s f 128).length = 128 := by rw [wipK_len, hs]
      go_wp2_with (first | refine load_sec rfl _ rfl w.heap.size rfl (wipK s f 128) hlen H1.out ?_ | (refine store_sec rfl _ _ rfl (w.heap.size + 1) rfl (wipK s f 128) rfl hlen Zs Zs_len H2.out ?_; intro w2 hw2))
      exact bodyPost_ret (v := .agg (SA (wipK s f 128))) (results_sec1 Tryz.results143 _ _ (w.heap.size + 1) _ hlen rfl hw2.here) rfl ⟨rfl, hw2.below h3 (by omega)⟩

end Go.Proofs.YtboammbcoleicaaGreat

namespace Go.Proofs.YtboammbcoleicaaGreat
open Go.RowKit Go.Shelf

abbrev Img := List (List Int)
/-- A sector of an image. -/
def secI (im : Img) (n : Int) : List Int := im.getD n.toNat Zs
/-- An inode that is taken up: the image as it should be, what is claimed, the blocks that were found. -/
structure TS where
  wt : Img
  cl : Int → Bool
  sp : List (Int × Int)
abbrev KeepF := TS → Int → Int → Bool × TS
/-- Is a pointer good? Then it is claimed. -/
def claimB (N M : Int) (cl : Int → Bool) (n : Int) : Bool := !cl n && dataB M N n
def putC (cl : Int → Bool) (n : Int) : Int → Bool := fun x => x == n || cl x
def delC (cl : Int → Bool) (n : Int) : Int → Bool := fun x => x != n && cl x
def blockF (N M cnt : Int) : KeepF := fun s i n =>
  if decide (i < cnt) && claimB N M s.cl n then (true, ⟨s.wt, putC s.cl n, s.sp ++ [(i, n)]⟩) else (false, s)
/-- A row of pointers, gone through: k of them. -/
def goK (keep : KeepF) (t0 : List Int) (s0 : TS) : Nat → List Int × TS
  | 0 => (t0, s0)
  | k + 1 =>
    let r := goK keep t0 s0 k
    let v := keep r.2 k (t0.getD k 0)
    (r.1.set k (if v.1 then t0.getD k 0 else 0), v.2)
def goF (keep : KeepF) (at_ : Int) (s : TS) : Bool × TS :=
  let r := goK keep (ptrsTo (secI s.wt at_) 32) s 32
  if r.1 = Zp then (false, ⟨r.2.wt, delC r.2.cl at_, r.2.sp⟩) else (true, ⟨r.2.wt.set at_.toNat (ptrS r.1), r.2.cl, r.2.sp⟩)
/-- The pointers of a table lead each to so many blocks. -/
def innerF (each f : Int) (keep : KeepF) : KeepF := fun s k p => keep s (f + each * k) p
def tableF (N M cnt each : Int) (keep : KeepF) : KeepF := fun s f n =>
  if decide (f < cnt) && claimB N M s.cl n then goF (innerF each f keep) n ⟨s.wt, putC s.cl n, s.sp⟩ else (false, s)
def singleF (N M cnt : Int) : KeepF := tableF N M cnt 1 (blockF N M cnt)
def doubleF (N M cnt : Int) : KeepF := tableF N M cnt 32 (singleF N M cnt)
def cntZ (z : List Int) : Int := (z.getD 2 0 + 127) / 128
def leftF (b : Bool) (n : Int) : Int := if b then n else 0
/-- An inode's pointers, one row behind the other. -/
def dirT (N M : Int) (z : List Int) (wt : Img) (cl : Int → Bool) : List Int × TS := goK (blockF N M (cntZ z)) ((z.drop 4).take 12) ⟨wt, cl, []⟩ 12
def sinT (N M : Int) (z : List Int) (wt : Img) (cl : Int → Bool) : Bool × TS := singleF N M (cntZ z) (dirT N M z wt cl).2 12 (z.getD 16 0)
def dblT (N M : Int) (z : List Int) (wt : Img) (cl : Int → Bool) : Bool × TS := doubleF N M (cntZ z) (sinT N M z wt cl).2 44 (z.getD 17 0)
def inoT (N M : Int) (z : List Int) (wt : Img) (cl : Int → Bool) : List Int :=
  [z.getD 0 0, 0, z.getD 2 0, z.getD 3 0] ++ (dirT N M z wt cl).1 ++ [leftF (sinT N M z wt cl).1 (z.getD 16 0), leftF (dblT N M z wt cl).1 (z.getD 17 0)]

/-- A look that is under way. -/
structure LS where
  wt : Img
  cl : Int → Bool
  wp : Int → Bool
  tk : Int → Option (List Int)
  q : List (List Int)
/-- Is there a last block to be wiped? -/
def lastB (size : Int) (sp : List (Int × Int)) : Option (Int × Int) :=
  match sp.getLast? with
  | some l => if size % 128 ≠ 0 ∧ l.1 = size / 128 then some l else none
  | none => none
def wipeW (size : Int) (sp : List (Int × Int)) (wt : Img) : Img :=
  match lastB size sp with
  | some l => wt.set l.2.toNat (wip (secI wt l.2) (size % 128))
  | none => wt
def wipeP (size : Int) (sp : List (Int × Int)) (wp : Int → Bool) : Int → Bool :=
  match lastB size sp with
  | some l => putC wp l.2
  | none => wp
/-- What taking an inode up leaves of the look. -/
def takeL (N M : Int) (z : List Int) (s : LS) : LS :=
  let r := (dblT N M z s.wt s.cl).2
  if z.getD 0 0 = 2 then ⟨r.wt, r.cl, s.wp, s.tk, s.q ++ [r.sp.map Prod.snd]⟩
  else ⟨wipeW (z.getD 2 0) r.sp r.wt, r.cl, wipeP (z.getD 2 0) r.sp s.wp, s.tk, s.q⟩
/-- An inode as the image has it; is it sound? -/
def soundZ (M : Int) (im : Img) (i : Int) : List Int × Bool :=
  if 1 ≤ i ∧ i ≤ M then
    let r := rdIno (zTo (secI im i) 18) (secI im i)
    (r.1, decide (r.2 = 0) && decide (r.1.getD 0 0 ≠ 0))
  else (Zi, false)
def putT (tk : Int → Option (List Int)) (i : Int) (z : List Int) : Int → Option (List Int) := fun x => if x = i then some z else tk x
def moreZ (z : List Int) : List Int := z.set 1 (z.getD 1 0 + 1)
def enterL (N M : Int) (im : Img) (i : Int) (s : LS) : LS :=
  match s.tk i with
  | some z => { s with tk := putT s.tk i (moreZ z) }
  | none =>
    let z := (soundZ M im i).1
    let s1 := takeL N M z s
    { s1 with tk := putT s1.tk i (moreZ (inoT N M z s.wt s.cl)) }
def isEntryB (M : Int) (im : Img) (s : LS) (ino : Int) (there : Bool) : Bool :=
  if there || decide (ino = 1) then false
  else match s.tk ino with
    | some z => decide (z.getD 0 0 = 1) && decide (z.getD 1 0 < 100)
    | none => (soundZ M im ino).2
/-- What a slot says. -/
def slotOf (s : List Int) : Int × ByteArray × Int := rdSlot (getV s 0 4) s
def hasN (l : List ByteArray) (s : ByteArray) : Bool := l.any fun y => decide (y.data = s.data)
/-- One slot of a directory. -/
def slotL (N M : Int) (im : Img) (n : Int) (r : List ByteArray × LS) : List ByteArray × LS :=
  let x := slotOf (secI r.2.wt n)
  if x.2.2 = 0 ∧ x.1 = 0 ∧ x.2.1.size = 0 then r
  else if x.2.2 = 0 ∧ isEntryB M im r.2 x.1 (hasN r.1 x.2.1) = true then (x.2.1 :: r.1, enterL N M im x.1 r.2)
  else (r.1, { r.2 with wt := r.2.wt.set n.toNat Zs })
def dirK (N M : Int) (im : Img) : List Int → List ByteArray × LS → List ByteArray × LS
  | [], r => r
  | n :: l, r => dirK N M im l (slotL N M im n r)
def dirL (N M : Int) (im : Img) (l : List Int) (s : LS) : LS := (dirK N M im l ([], s)).2
/-- All directories that wait, and those that come to wait. -/
def allL (N M : Int) (im : Img) : Nat → LS → LS
  | 0, s => s
  | f + 1, s => match s.q with
    | [] => s
    | l :: q => allL N M im f (dirL N M im l { s with q := q })
def inodeW (tk : Int → Option (List Int)) (i : Int) : List Int := inoS ((tk i).getD Zi)
/-- The inodes' sectors laid: k of them. -/
def layK (tk : Int → Option (List Int)) (wt : Img) : Nat → Img
  | 0 => wt
  | k + 1 => (layK tk wt k).set (k + 1) (inodeW tk (k + 1))

end Go.Proofs.YtboammbcoleicaaGreat
