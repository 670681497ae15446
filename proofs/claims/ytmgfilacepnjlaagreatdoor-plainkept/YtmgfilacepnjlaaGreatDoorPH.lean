/-
 path.hasForm: whether a text is of a path's form.
-/
import Derived.Lib.SplitLaws
import Derived.Lib.Join
import Derived.Laws.Runes
import Derived.Deep.LoopGhost
import Derived.Lib.Index
import Derived.Test.YtmgfilacepnjlaaGreatDoorShelf
-- may lack
namespace Go.Proofs.YtmgfilacepnjlaaGreatDoor

def okName (l:List UInt8):Bool:=decide (1≤l.length) && decide (l.length≤40) && !(l == [46]) && !(l == [46,46]) && l.all (fun b=>b != 0 && b != 47)
def noTwo:List UInt8→Bool
 | []=>true
 | [a]=>a != 47
 | a :: b :: r => !(a == 47 && b == 47) && noTwo (b :: r)
def formed (l:List UInt8):Bool:=decide (l.length≤400) && l.head? == some 47 && (l == [47] || noTwo l)
def pieces:List UInt8→List (List UInt8)
 | []=>[[]]
 | b :: r=>if b=47 then [] :: pieces r else match pieces r with
  | []=>[[b]]
  | x :: xs=>(b :: x) :: xs
def pathOf (xs:List (List UInt8)):List UInt8:=if xs=[] then [47] else (xs.map (47 :: ·)).flatten
def sizes (xs:List (List UInt8)):Nat:=(xs.map fun x=>1 + x.length).sum
def splitR (l:List UInt8):List (List UInt8) × Int :=
 if formed l then (if l=[47] then ([],0) else if (pieces l.tail).all okName then (pieces l.tail,0) else ([],71)) else ([],70)
theorem pieces_ne (l:List UInt8):pieces l≠[]:=by
 cases l with
 | nil=>simp [pieces]
 | cons b r =>
  unfold pieces
  split
  ·simp
  ·split <;> simp

theorem pieces_none (l:List UInt8) (h:∀ b∈l,b≠47):pieces l=[l]:=by
 induction l with
 | nil=>rfl
 | cons b r ih =>
  have hb:=h b (by simp);rw [pieces,if_neg hb,ih (fun c hc=>h c (by simp [hc]))]

theorem pieces_cut (a r:List UInt8) (h:∀ b∈a,b≠47):pieces (a ++ 47 :: r)=a :: pieces r:=by
 induction a with
 | nil=>simp [pieces]
 | cons b a ih =>
  have hb:=h b (by simp);rw [List.cons_append,pieces,if_neg hb,ih (fun c hc=>h c (by simp [hc]))]

theorem occ_one (l:List UInt8) (j:Nat):Lib.occAt l [47] j=true↔l[j]? = some 47:=by
 unfold Lib.occAt
 cases e:l.drop j with
 | nil =>
  have:l[j]? = none:=by rw [←List.head?_drop,e];rfl
  rw [this];simp
 | cons x t =>
  have:l[j]? = some x:=by rw [←List.head?_drop,e];rfl
  rw [this];simp only [List.isPrefixOf,Bool.and_true,beq_iff_eq,Option.some.injEq];exact eq_comm

theorem splitK_pieces:∀ (k:Nat) (l:List UInt8),Lib.count l [47]=k→Lib.splitK [47] 0 k l=pieces l:=by
 intro k
 induction k with
 | zero =>
  intro l hk
  rcases Lib.index_spec l [47] with ⟨h1,h2⟩ | ⟨i,h1,h2,h3,h4⟩
  ·rw [Lib.splitK,pieces_none]
   intro b hb hb47
   subst hb47;obtain ⟨j,hj,he⟩:=List.mem_iff_getElem.1 hb;have:=h2 j (by omega);have h3:=(occ_one l j).2 (by rw [List.getElem?_eq_getElem hj,he]);rw [this] at h3;simp at h3
  ·have:=Lib.count_hit (by simp) h1
   omega
 | succ k ih =>
  intro l hk
  rcases Lib.index_spec l [47] with ⟨h1,h2⟩ | ⟨i,h1,h2,h3,h4⟩
  ·have:=Lib.count_miss h1
   omega
  ·have hc:=Lib.count_hit (by simp) h1
   have hi:l[i]? = some 47:=(occ_one l i).1 h3
   have hil:i < l.length:=by
    rcases Nat.lt_or_ge i l.length with h | h
    ·exact h
    ·rw [List.getElem?_eq_none h] at hi;simp at hi
   have hne : ¬ (Lib.index l [47] == -1)=true:=fun e=>by have:=beq_iff_eq.1 e;omega
   rw [Lib.splitK,if_neg hne,h1]
   simp only [Int.toNat_natCast,Nat.add_zero,List.length_singleton]
   rw [ih _ (by simp at hc;omega)]
   have el:l=l.take i ++ 47 :: l.drop (i + 1):=by
    have h5:l.drop i=47 :: l.drop (i + 1):=by
     rw [List.drop_eq_getElem_cons hil]
     congr 1
     rw [List.getElem?_eq_getElem hil] at hi
     exact Option.some.inj hi
    rw [←h5,List.take_append_drop]
   conv=>rhs;rw [el]
   rw [pieces_cut]
   intro b hb hb47
   subst hb47;obtain ⟨j,hj,he⟩:=List.mem_iff_getElem.1 hb
   have hj2:j < i:=by rw [List.length_take] at hj;omega
   have h5:=h4 j hj2;have h6:=(occ_one l j).2 (by rw [List.getElem?_eq_getElem (by omega)];rw [List.getElem_take] at he;rw [he]);rw [h5] at h6;simp at h6

theorem pieces_flat (l:List UInt8):((pieces l).map (47 :: ·)).flatten=47 :: l:=by
 induction l with
 | nil=>rfl
 | cons b r ih =>
  unfold pieces
  split
  ·rename_i h;subst h;simp [ih]
  ·cases e:pieces r with
   | nil=>exact absurd e (pieces_ne r)
   | cons x xs=>rw [e] at ih;simp at ih ⊢;exact ih

theorem flat_length (xs:List (List UInt8)):((xs.map (47 :: ·)).flatten).length=sizes xs:=by
 induction xs with
 | nil=>rfl
 | cons x xs ih=>simp only [List.map_cons,List.flatten_cons,List.length_append,ih,List.length_cons,sizes,List.sum_cons];omega

theorem ok_parts {l:List UInt8} (h:okName l=true):1≤l.length∧l.length≤40∧l≠[46]∧l≠[46,46]∧(∀ b∈l,b≠0)∧(∀ b∈l,b≠47):=by
 simp only [okName,Bool.and_eq_true,decide_eq_true_eq,Bool.not_eq_true',List.all_eq_true,bne_iff_ne,ne_eq,beq_eq_false_iff_ne] at h
 exact ⟨h.1.1.1.1,h.1.1.1.2,h.1.1.2,h.1.2,fun b hb=>(h.2 b hb).1,fun b hb=>(h.2 b hb).2⟩

theorem pieces_join:∀ (xs:List (List UInt8)),xs≠[]→(∀ x∈xs,∀ b∈x,b≠47)→∃ r,(xs.map (47 :: ·)).flatten=47 :: r∧pieces r=xs:=by
 intro xs
 induction xs with
 | nil=>intro h;exact absurd rfl h
 | cons x xs ih =>
  intro _ h
  have hx:=h x (by simp)
  by_cases e:xs=[]
  ·subst e
   exact ⟨x,by simp,pieces_none x hx⟩
  ·obtain ⟨r,h1,h2⟩:=ih e (fun y hy=>h y (by simp [hy]))
   refine ⟨x ++ 47 :: r,?_,?_⟩
   ·rw [List.map_cons,List.flatten_cons,h1];rfl
   ·rw [pieces_cut x r hx,h2]

theorem noTwo_join (x:List UInt8):∀ (l:List UInt8),(∀ b∈x,b≠47)→noTwo (47 :: l)=true→x≠[]→noTwo (x ++ 47 :: l)=true:=by
 induction x with
 | nil=>intro l _ _ h;exact absurd rfl h
 | cons a x ih =>
  intro l h1 h2 _
  cases x with
  | nil =>
   have ha:=h1 a (by simp)
   show noTwo (a :: 47 :: l)=true
   rw [noTwo,h2];simp [ha]
  | cons b x =>
   have ha:=h1 a (by simp);have:=ih l (fun c hc=>h1 c (by simp at hc ⊢;right;exact hc)) h2 (by simp)
   show noTwo (a :: b :: (x ++ 47 :: l))=true
   rw [noTwo];rw [show noTwo (b :: (x ++ 47 :: l))=true from this];simp [ha]

theorem noTwo_plain (x:List UInt8) (h:∀ b∈x,b≠47):noTwo x=true:=by
 induction x with
 | nil=>rfl
 | cons a x ih =>
  have ha:=h a (by simp)
  cases x with
  | nil=>simp [noTwo,ha]
  | cons b x=>rw [noTwo,ih (fun c hc=>h c (by simp at hc ⊢;right;exact hc))];simp [ha]

theorem noTwo_flat:∀ (xs:List (List UInt8)),xs≠[]→(∀ x∈xs,x≠[]∧∀ b∈x,b≠47)→noTwo ((xs.map (47 :: ·)).flatten)=true:=by
 intro xs
 induction xs with
 | nil=>intro h;exact absurd rfl h
 | cons x xs ih =>
  intro _ h
  obtain ⟨h0,hx⟩:=h x (by simp)
  cases x with
  | nil=>exact absurd rfl h0
  | cons a x =>
   have ha:=hx a (by simp)
   have key:noTwo ((a :: x) ++ (xs.map (47 :: ·)).flatten)=true:=by
    by_cases e:xs=[]
    ·subst e
     simp only [List.map_nil,List.flatten_nil,List.append_nil]
     exact noTwo_plain _ hx
    ·have h2:=ih e (fun y hy=>h y (by simp [hy]))
     obtain ⟨r,h3,-⟩:=pieces_join xs e (fun y hy=>(h y (by simp [hy])).2);rw [h3] at h2 ⊢
     exact noTwo_join _ r hx h2 (by simp)
   rw [List.map_cons,List.flatten_cons]
   show noTwo (47 :: a :: (x ++ (xs.map (47 :: ·)).flatten))=true
   rw [noTwo,show noTwo (a :: (x ++ (xs.map (47 :: ·)).flatten))=true from key];simp [ha]

theorem split_join (xs:List (List UInt8)) (h:xs.all okName=true) (hs:sizes xs≤400):splitR (pathOf xs)=(xs,0):=by
 by_cases e:xs=[]
 ·subst e;rfl
 ·have hall:∀ x∈xs,okName x=true:=List.all_eq_true.1 h
  have h47:∀ x∈xs,∀ b∈x,b≠47:=fun x hx=>(ok_parts (hall x hx)).2.2.2.2.2
  have hne:∀ x∈xs,x≠[]∧∀ b∈x,b≠47:=fun x hx=>⟨fun e=>by have:=(ok_parts (hall x hx)).1;rw [e] at this;simp at this,h47 x hx⟩
  obtain ⟨r,h1,h2⟩:=pieces_join xs e h47;have hlen:=flat_length xs;have hn:=noTwo_flat xs e hne
  have hp:pathOf xs=47 :: r:=by rw [pathOf,if_neg e,h1]
  have hr:r≠[]:=by
   intro er
   rw [er] at h2;have:=(hne [] (by rw [←h2];simp [pieces])).1
   exact this rfl
  rw [h1] at hlen hn
  have hf:formed (47 :: r)=true:=by
   simp only [formed,hn,Bool.or_true,Bool.and_true,Bool.and_eq_true,decide_eq_true_eq]
   exact ⟨by omega,rfl⟩
  rw [hp,splitR,if_pos hf,if_neg (by simp [hr]),List.tail_cons,h2,if_pos h]

theorem split_ok {l:List UInt8} {xs:List (List UInt8)} (h:splitR l=(xs,0)):xs.all okName=true∧sizes xs≤400∧pathOf xs=l∧(sizes xs=l.length∨xs=[]∧l=[47]):=by
 unfold splitR at h
 split at h
 ·rename_i hf
  split at h
  ·rename_i e
   have:xs=[]:=by have:=congrArg Prod.fst h;exact this.symm
   subst this
   exact ⟨rfl,by decide,by rw [e];rfl,.inr ⟨rfl,e⟩⟩
  ·rename_i e
   split at h
   ·rename_i hk
    have hx:pieces l.tail=xs:=congrArg Prod.fst h
    simp only [formed,Bool.and_eq_true,decide_eq_true_eq,beq_iff_eq] at hf
    cases l with
    | nil=>have:=hf.1.2;simp at this
    | cons a r =>
     have ha:a=47:=by have:=hf.1.2;simpa using this
     subst ha;rw [List.tail_cons] at hx hk;subst hx;have h1:=pieces_flat r;have h2:=flat_length (pieces r);rw [h1] at h2;refine ⟨hk,by rw [←h2];exact hf.1.1,by rw [pathOf,if_neg (pieces_ne r),h1],.inl h2.symm⟩
   ·have:=congrArg Prod.snd h;simp at this
 ·have:=congrArg Prod.snd h;simp at this

theorem okName_of {l:List UInt8} (h1:1≤l.length) (h2:l.length≤40) (h3:l≠[46]) (h4:l≠[46,46]) (h5:∀ b∈l,b≠0∧b≠47):okName l=true:=by
 simp only [okName,Bool.and_eq_true,decide_eq_true_eq,Bool.not_eq_true',List.all_eq_true,bne_iff_ne,ne_eq,beq_eq_false_iff_ne]
 exact ⟨⟨⟨⟨h1,h2⟩,h3⟩,h4⟩,fun b hb=>h5 b hb⟩

theorem sizes_cons (x:List UInt8) (xs:List (List UInt8)):sizes (x :: xs)=1 + x.length + sizes xs:=by simp [sizes]
theorem sizes_len:∀ (xs:List (List UInt8)),xs.length≤sizes xs:=by
 intro xs
 induction xs with
 | nil=>simp [sizes]
 | cons x xs ih=>rw [sizes_cons,List.length_cons];omega

theorem path_more (xs:List (List UInt8)) (x:List UInt8):pathOf (xs ++ [x])=(if xs=[] then 47 :: x else pathOf xs ++ 47 :: x):=by
 unfold pathOf;rw [if_neg (by simp)]
 split
 ·rename_i h;subst h;simp
 ·simp
theorem path_len (xs:List (List UInt8)):(pathOf xs).length=if xs=[] then 1 else sizes xs:=by
 unfold pathOf
 split
 ·rfl
 ·exact flat_length xs

theorem split_not {l:List UInt8} (h:formed l=false):splitR l=([],70):=by unfold splitR;rw [h];rfl
end Go.Proofs.YtmgfilacepnjlaaGreatDoor

namespace Go.Proofs.YtmgfilacepnjlaaGreatDoor
open Go.RowKit

theorem btr {w w1 w2:World} {B:Nat} (h:Below w.heap.size w w1) (k:Below B w1 w2) (hB:w.heap.size≤B):Below w.heap.size w w2 :=
 h.trans ⟨k.os,k.tape,k.output,k.size,fun j hj=>k.block j (by omega)⟩
theorem dec_hi (s:ByteArray) (i:Nat) (hi:i < s.size) (h:128≤(s.get! i).toNat) :
  ∃ c n,Utf8.decode s i=(c,n)∧128≤c∧c≤1114111∧1≤n∧∀ k,k < n→i + k < s.size∧128≤(s.get! (i + k)).toNat:=by
 have one:∀ k,k < 1→i + k < s.size∧128≤(s.get! (i + k)).toNat:=fun k hk=>by
  have e:k=0:=by omega
  subst e;exact ⟨hi,h⟩
 have h0 : ¬ (s.get! (i + 0)).toNat < 128:=by rw [Nat.add_zero];omega
 unfold Utf8.decode
 simp only [h0,if_false]
 split
 ·rename_i c2
  simp only [Bool.and_eq_true,beq_iff_eq,decide_eq_true_eq] at c2
  split
  ·rename_i g
   refine ⟨_,_,rfl,g,by omega,by omega,fun k hk => ?_⟩
   match k,hk with
   | 0,_=>exact one 0 (by omega)
   | 1,_=>exact ⟨c2.2.1,by omega⟩
  ·exact ⟨_,_,rfl,by decide,by decide,by omega,one⟩
 ·split
  ·rename_i c3
   simp only [Bool.and_eq_true,beq_iff_eq,decide_eq_true_eq] at c3
   split
   ·rename_i g
    simp only [Bool.and_eq_true,decide_eq_true_eq] at g
    refine ⟨_,_,rfl,by omega,by omega,by omega,fun k hk => ?_⟩
    match k,hk with
    | 0,_=>exact one 0 (by omega)
    | 1,_=>exact ⟨c3.1.2.1,by omega⟩
    | 2,_=>exact ⟨c3.2.1,by omega⟩
   ·exact ⟨_,_,rfl,by decide,by decide,by omega,one⟩
  ·split
   ·rename_i c4
    simp only [Bool.and_eq_true,beq_iff_eq,decide_eq_true_eq] at c4
    split
    ·rename_i g
     simp only [Bool.and_eq_true,decide_eq_true_eq] at g
     have hv:=g.2
     simp only [Utf8.valid,Bool.or_eq_true,Bool.and_eq_true,decide_eq_true_eq] at hv
     refine ⟨_,_,rfl,by omega,by omega,by omega,fun k hk => ?_⟩
     match k,hk with
     | 0,_=>exact one 0 (by omega)
     | 1,_=>exact ⟨c4.1.1.2.1,by omega⟩
     | 2,_=>exact ⟨c4.1.2.1,by omega⟩
     | 3,_=>exact ⟨c4.2.1,by omega⟩
    ·exact ⟨_,_,rfl,by decide,by decide,by omega,one⟩
   ·exact ⟨_,_,rfl,by decide,by decide,by omega,one⟩

theorem run_nextG (W:World) (g:Nat) (s:ByteArray) (pos:Nat) (ty:TypeId) (hg:W.heap[g]? = some (.stringIter s pos)) (h:pos < s.size) :
  (Instr.next (.pointer (some ⟨g,0,none⟩)) true ty).run Tryz.prog W =
   .ok (.tuple #[.bool true,.int .i64 pos,.int .i32 (Utf8.decode s pos).1]) { W with heap:=W.heap.setIfInBounds g (.stringIter s (pos + (Utf8.decode s pos).2)) }:=by
 simp only [Instr.next,getObj,setObj,Sem.run_bind,Sem.run,hg,Result.andThen,h,if_true]
 simp [goInt]
theorem run_nextE (W:World) (g:Nat) (s:ByteArray) (pos:Nat) (ty:TypeId) (hg:W.heap[g]? = some (.stringIter s pos)) (h : ¬ pos < s.size) :
  (Instr.next (.pointer (some ⟨g,0,none⟩)) true ty).run Tryz.prog W=.ok (.tuple #[.bool false]) W:=by
 simp [Instr.next,getObj,Sem.run,hg,h]
theorem iter_at {W:World} {g:Nat} {o o':Obj} (hg:W.heap[g]? = some o):({ W with heap:=W.heap.setIfInBounds g o' }:World).heap[g]? = some o':=by
 have:=slt hg
 show (W.heap.setIfInBounds g o')[g]? = _
 simp [this]
theorem iter_below {B:Nat} {w W:World} {g:Nat} {o':Obj} (hb:Below B w W) (hB:B≤g):Below B w { W with heap:=W.heap.setIfInBounds g o' } :=
 hb.trans ⟨rfl,rfl,rfl,by show W.heap.size≤(W.heap.setIfInBounds g o').size;simp,fun k hk=>by show (W.heap.setIfInBounds g o')[k]? = _;rw [Array.getElem?_setIfInBounds];rw [if_neg (by omega)]⟩


theorem get_at (s:ByteArray) (i:Nat) (hi:i < s.size):s.get! i=s[i]'hi:=by
 show s.data[i]! = _
 simp [getElem!_pos,hi]
 rfl
theorem dat_at (s:ByteArray) (i:Nat) (hi:i < s.size):s.data.toList[i]? = some (s[i]'hi):=Lib.data_getElem? s i hi

def Clean (l:List UInt8) (i:Nat):Prop:=∀ k b,k < i→l[k]? = some b→b≠0∧b≠47
theorem Clean.succ {l:List UInt8} {i:Nat} {b:UInt8} (h:Clean l i) (hb:l[i]? = some b) (h0:b≠0∧b≠47):Clean l (i + 1):=fun k c hk hc=>by
 rcases Nat.lt_or_ge k i with g | g
 ·exact h k c g hc
 ·obtain rfl:k=i:=by omega
  rw [hb] at hc;cases hc;exact h0
theorem hi_two {x:UInt8} (h:128≤x.toNat):x≠0∧x≠47:=⟨fun e=>by subst e;exact absurd h (by decide),fun e=>by subst e;exact absurd h (by decide)⟩
theorem Clean.more {s:ByteArray} {i:Nat}:∀ n:Nat,Clean s.data.toList i→(∀ k,k < n→i + k < s.size∧128≤(s.get! (i + k)).toNat)→Clean s.data.toList (i + n)
 | 0,h,_=>h
 | n + 1,h,hk=>by
  have ih:=Clean.more n h (fun k hk'=>hk k (by omega));have hn:=hk n (by omega);have e2:=hn.2;rw [get_at s _ hn.1] at e2
  exact ih.succ (dat_at s (i + n) hn.1) (hi_two e2)
theorem Clean.all {l:List UInt8} (h:Clean l l.length):∀ b∈l,b≠0∧b≠47:=fun b hb=>by
 obtain ⟨k,hk,e⟩:=List.mem_iff_getElem.1 hb
 exact h k b hk (by rw [List.getElem?_eq_getElem hk,e])

def chk (l:List UInt8):Int:=if okName l=true then 0 else 71
theorem chk_ok {l:List UInt8} (h:okName l=true):chk l=0:=by unfold chk;rw [if_pos h]
theorem chk_bad {l:List UInt8} (h : ¬ okName l=true):chk l=71:=by unfold chk;rw [if_neg h]
theorem tl (s:ByteArray):s.toList=s.data.toList:=ByteArray.toList_eq s
theorem len_eq (s:ByteArray):s.data.toList.length=s.size:=by simp
theorem toList_dot:(⟨#[46]⟩:ByteArray).toList=[46]:=by rw [ByteArray.toList_eq]
theorem toList_dots:(⟨#[46,46]⟩:ByteArray).toList=[46,46]:=by rw [ByteArray.toList_eq]
theorem toList_stroke:(⟨#[47]⟩:ByteArray).toList=[47]:=by rw [ByteArray.toList_eq]

set_option maxRecDepth 100000 in
set_option maxHeartbeats 2000000 in
theorem check_any (s:ByteArray) (w:World) :
  Calls Tryz.prog 63 #[.string s] w fun e w'=>e=.returned (.int .i64 (chk s.data.toList))∧Below w.heap.size w w':=by
 have e1:=toList_dot;have e2:=toList_dots;have hl:=len_eq s
 by_cases h1:(s.size:Int) < 1
 ·have HV:Hid (chk s.data.toList=71):=by exact chk_bad fun h=>by have:=(ok_parts h).1;omega
  clear hl
  go_enter Tryz.func63,Tryz.ntmps63
  go_wp2
  go_ret
  exact ⟨ret_int HV.out.symm,Below.refl _ _⟩
 by_cases h2:(40:Int) < s.size
 ·have HV:Hid (chk s.data.toList=71):=by exact chk_bad fun h=>by have:=(ok_parts h).2.1;omega
  clear hl
  go_enter Tryz.func63,Tryz.ntmps63
  go_wp2
  go_ret
  exact ⟨ret_int HV.out.symm,Below.refl _ _⟩
 cases k1:(s.toList == [46])
 case true =>
  have HV:Hid (chk s.data.toList=71):=by exact chk_bad fun h=>(ok_parts h).2.2.1 (by rw [←tl];exact eq_of_beq k1)
  clear hl
  go_enter Tryz.func63,Tryz.ntmps63
  go_wp2
  go_ret
  exact ⟨ret_int HV.out.symm,Below.refl _ _⟩
 cases k2:(s.toList == [46,46])
 case true =>
  have HV:Hid (chk s.data.toList=71):=by exact chk_bad fun h=>(ok_parts h).2.2.2.1 (by rw [←tl];exact eq_of_beq k2)
  clear hl
  go_enter Tryz.func63,Tryz.ntmps63
  go_wp2
  go_ret
  exact ⟨ret_int HV.out.symm,Below.refl _ _⟩
 have HG:Hid (Clean s.data.toList s.data.toList.length→chk s.data.toList=0):=by
  exact fun hc=>chk_ok (okName_of (by omega) (by omega) (fun e=>by rw [tl,e] at k1;exact absurd k1 (by decide)) (fun e=>by rw [tl,e] at k2;exact absurd k2 (by decide)) hc.all)
 have HL:=hid hl;clear hl
 go_enter Tryz.func63,Tryz.ntmps63
 go_wp2
 clear h1 h2 k1 k2 e1 e2
 go_loopg [4] s.size (fun g _ wx=>∃ i:Nat,i + g=s.size∧wx.heap[w.heap.size]? = some (.stringIter s i)∧Below w.heap.size w wx∧Hid (Clean s.data.toList i))
 case atStart=>exact ⟨0,by omega,w.iter_heap s 0,(Below.refl _ _).alloc (Nat.le_refl _) _,fun k b hk=>by omega⟩
 case round =>
  obtain ⟨i,hig,hit,hbw,HN⟩:=hrel;obtain ⟨Wx,hWx⟩:∃ y,y=wr:=⟨_,rfl⟩;subst hWx
  cases gk with
  | zero =>
   obtain rfl:i=s.size:=by omega
   have hnx:=fun ty=>run_nextE Wx w.heap.size s s.size ty hit (by omega)
   clear hit
   go_wp2
   go_ret
   exact ⟨ret_int (HG.out (by rw [HL.out];exact HN.out)).symm,hbw⟩
  | succ g =>
   have hi:i < s.size:=by omega
   have hnx:=fun ty=>run_nextG Wx w.heap.size s i ty hit hi
   have hxl:=dat_at s i hi;have eget:=get_at s i hi
   by_cases hlo:(s[i]'hi).toNat < 128
   ·rw [decode_ascii s i hi hlo] at hnx
    obtain ⟨x,hx⟩:∃ x:UInt8,s[i]'hi=x:=⟨_,rfl⟩;rw [hx] at hnx hxl hlo;obtain ⟨W2,hW2⟩:∃ y,y=({ Wx with heap:=Wx.heap.setIfInBounds w.heap.size (.stringIter s (i + 1)) }:World):=⟨_,rfl⟩
    have t2:W2.heap[w.heap.size]? = some (.stringIter s (i + 1)):=by rw [hW2];exact iter_at hit
    have b2:Below w.heap.size w W2:=by rw [hW2];exact iter_below hbw (Nat.le_refl _)
    have hnx':∀ ty,(Instr.next (.pointer (some ⟨w.heap.size,0,none⟩)) true ty).run Tryz.prog Wx=.ok (.tuple #[.bool true,.int .i64 i,.int .i32 (x.toNat:Int)]) W2:=fun ty=>by rw [hW2];exact hnx ty
    have HX:=hid hxl;clear hnx hW2 hit eget hx hxl
    have bad:x=0∨x=47→chk s.data.toList=71:=fun hx=>chk_bad fun h=>by
     have hm:x∈s.data.toList:=List.mem_of_getElem? HX.out
     rcases hx with e | e
     ·exact (ok_parts h).2.2.2.2.1 x hm e
     ·exact (ok_parts h).2.2.2.2.2 x hm e
    have BAD:=hid bad;clear bad
    by_cases c0:x=0
    ·subst c0
     go_wp2
     go_ret
     exact ⟨ret_int (BAD.out (by simp)).symm,b2⟩
    ·by_cases c1:x=47
     ·subst c1
      go_wp2
      go_ret
      exact ⟨ret_int (BAD.out (by simp)).symm,b2⟩
     ·have n0:((x.toNat:Int) == 0)=false:=by
       simp only [beq_eq_false_iff_ne];intro e;exact c0 (UInt8.toNat_inj.1 (by have:(0:UInt8).toNat=0:=rfl;omega))
      have n1:((x.toNat:Int) == 47)=false:=by
       simp only [beq_eq_false_iff_ne];intro e;exact c1 (UInt8.toNat_inj.1 (by have:(47:UInt8).toNat=47:=rfl;omega))
      have HC:=hid (HN.out.succ HX.out ⟨c0,c1⟩)
      go_wp2
      go_roundg g
      case measure=>omega
      case rel=>exact ⟨i + 1,by omega,t2,b2,HC⟩
   ·obtain ⟨c,n,hdec,hc0,hc1,hn1,hall⟩:=dec_hi s i hi (by rw [eget];omega)
    rw [hdec] at hnx;obtain ⟨W2,hW2⟩:∃ y,y=({ Wx with heap:=Wx.heap.setIfInBounds w.heap.size (.stringIter s (i + n)) }:World):=⟨_,rfl⟩
    have t2:W2.heap[w.heap.size]? = some (.stringIter s (i + n)):=by rw [hW2];exact iter_at hit
    have b2:Below w.heap.size w W2:=by rw [hW2];exact iter_below hbw (Nat.le_refl _)
    have hnx':∀ ty,(Instr.next (.pointer (some ⟨w.heap.size,0,none⟩)) true ty).run Tryz.prog Wx=.ok (.tuple #[.bool true,.int .i64 i,.int .i32 (c:Int)]) W2:=fun ty=>by rw [hW2];exact hnx ty
    have HNN:=hid (HN.out.more n hall);have hlast:=(hall (n - 1) (by omega)).1
    have n0:((c:Int) == 0)=false:=by simp only [beq_eq_false_iff_ne];omega
    have n1:((c:Int) == 47)=false:=by simp only [beq_eq_false_iff_ne];omega
    clear hnx hW2 hit eget hxl hlo hall hdec
    go_wp2
    go_roundg (s.size - (i + n))
    case measure=>omega
    case rel=>exact ⟨i + n,by omega,t2,b2,HNN⟩

end Go.Proofs.YtmgfilacepnjlaaGreatDoor

namespace Go.Proofs.YtmgfilacepnjlaaGreatDoor
open Go.RowKit Go.Shelf

theorem noTwo_iff (l:List UInt8):noTwo l=true↔∀ k:Nat,l[k]? = some 47→∃ b,l[k + 1]? = some b∧b≠47:=by
 induction l with
 | nil=>simp [noTwo]
 | cons a r ih =>
  cases r with
  | nil =>
   simp only [noTwo,bne_iff_ne,ne_eq]
   constructor
   ·intro h k hk
    cases k with
    | zero=>simp at hk;exact absurd hk h
    | succ k=>simp at hk
   ·intro h e
    subst e;obtain ⟨b,hb,-⟩:=h 0 rfl
    simp at hb
  | cons b r =>
   rw [noTwo,Bool.and_eq_true,ih]
   constructor
   ·rintro ⟨h1,h2⟩ k hk
    cases k with
    | zero =>
     simp at hk
     subst hk;refine ⟨b,rfl,fun e => ?_⟩;subst e
     simp at h1
    | succ k=>exact h2 k hk
   ·intro h
    refine ⟨?_,fun k hk=>h (k + 1) hk⟩
    cases e:(a == 47 && b == 47)
    ·rfl
    ·rw [Bool.and_eq_true] at e
     obtain ⟨c,hc,hn⟩:=h 0 (by simp [eq_of_beq e.1])
     simp at hc
     exact absurd (by rw [←hc];exact eq_of_beq e.2) hn

structure Seen (l:List UInt8) (i:Nat) (la:Int):Prop where
 ok:∀ k:Nat,k + 1 < i→l[k]? = some 47→∃ b,l[k + 1]? = some b∧b≠47
 la:la=47↔∃ j,j + 1=i∧l[j]? = some 47
theorem Seen.zero (l:List UInt8):Seen l 0 0:=⟨fun k h=>by omega,⟨fun h=>by omega,fun ⟨j,h,_⟩=>by omega⟩⟩
theorem Seen.succ {l:List UInt8} {i:Nat} {la:Int} {x:UInt8} (h:Seen l i la) (hx:l[i]? = some x) (hn : ¬ (x=47∧la=47)):Seen l (i + 1) x.toNat:=by
 refine ⟨fun k hk e => ?_,?_⟩
 ·rcases Nat.lt_or_ge (k + 1) i with g | g
  ·exact h.ok k g e
  ·obtain rfl:k + 1=i:=by omega
   refine ⟨x,hx,fun ex=>hn ⟨ex,h.la.2 ⟨k,rfl,e⟩⟩⟩
 ·have:((x.toNat:Int)=47)↔x=47:=⟨fun e=>UInt8.toNat_inj.1 (by have:(47:UInt8).toNat=47:=rfl;omega),fun e=>by subst e;rfl⟩
  rw [this]
  constructor
  ·intro e;subst e;exact ⟨i,rfl,hx⟩
  ·rintro ⟨j,hj,hj2⟩
   obtain rfl:j=i:=by omega
   rw [hx] at hj2;cases hj2;rfl
theorem Seen.more {s:ByteArray} {i:Nat} {la c:Int} (n:Nat) (h:Seen s.data.toList i la) (hn:1≤n) (hc:128≤c) (hk:∀ k,k < n→i + k < s.size∧128≤(s.get! (i + k)).toNat):Seen s.data.toList (i + n) c:=by
 have hb:∀ j,i≤j→j < i + n→∃ x,s.data.toList[j]? = some x∧x≠47:=fun j h1 h2=>by
  have g:=hk (j - i) (by omega);rw [show i + (j - i)=j by omega] at g;have e2:=g.2;rw [get_at s _ g.1] at e2
  exact ⟨_,dat_at s j g.1,(hi_two e2).2⟩
 refine ⟨fun k hk' e => ?_,?_⟩
 ·rcases Nat.lt_or_ge (k + 1) i with g | g
  ·exact h.ok k g e
  ·exact hb (k + 1) g (by omega)
 ·constructor
  ·intro e;omega
  ·rintro ⟨j,hj,hj2⟩
   obtain ⟨x,hx,hx2⟩:=hb j (by omega) (by omega);rw [hx] at hj2;cases hj2;exact absurd rfl hx2
theorem Seen.end {l:List UInt8} {la:Int} (h:Seen l l.length la):noTwo l=(la != 47):=by
 cases e:(la != 47)
 ·have hla:la=47:=by simpa using e
  obtain ⟨j,hj,hj2⟩:=h.la.1 hla
  cases e2:noTwo l
  ·rfl
  ·obtain ⟨b,hb,-⟩:=(noTwo_iff l).1 e2 j hj2
   rw [List.getElem?_eq_none (by omega)] at hb;cases hb
 ·have hla:la≠47:=by simpa using e
  refine (noTwo_iff l).2 fun k hk => ?_
  rcases Nat.lt_or_ge (k + 1) l.length with g | g
  ·exact h.ok k g hk
  ·have hkl:k < l.length:=by
    rcases Nat.lt_or_ge k l.length with g' | g'
    ·exact g'
    ·rw [List.getElem?_eq_none g'] at hk;cases hk
   exact absurd (h.la.2 ⟨k,by omega,hk⟩) hla
theorem Seen.bad {l:List UInt8} {i:Nat} {la:Int} (h:Seen l i la) (hx:l[i]? = some 47) (hn:la=47):noTwo l=false:=by
 obtain ⟨j,rfl,hj2⟩:=h.la.1 hn
 cases e2:noTwo l
 ·rfl
 ·obtain ⟨b,hb,hb2⟩:=(noTwo_iff l).1 e2 j hj2
  rw [hx] at hb;cases hb;exact absurd rfl hb2

theorem hasPre (l:List UInt8):Lib.hasPrefix l [47]=(l.head? == some 47):=by
 cases l with
 | nil=>rfl
 | cons a r =>
  have h:Lib.hasPrefix (a :: r) [47]=(a == 47):=by
   simp only [Lib.hasPrefix,List.isPrefixOf,Bool.and_true]
   exact BEq.comm
  rw [h];simp

theorem prefix_any (s:ByteArray) (w:World):Calls Tryz.prog 74 #[.string s,.string ⟨#[47]⟩] w fun e w'=>e=.returned (.bool (s.data.toList.head? == some 47))∧w'=w:=by
 have k:=Any.strings_HasPrefix (P:=Tryz.prog) (ρ:=layPrefix_ren) layPrefix s ⟨#[47]⟩ w;rw [show (⟨#[47]⟩:ByteArray).data.toList=[47] from rfl,hasPre] at k
 exact k

set_option maxRecDepth 100000 in
set_option maxHeartbeats 2000000 in
theorem hasForm_any (s:ByteArray) (w:World) :
  Calls Tryz.prog 61 #[.string s] w fun e w'=>e=.returned (.bool (formed s.data.toList))∧Below w.heap.size w w':=by
 have e1:=toList_stroke;have hl:=len_eq s
 have hpre:=fun w'=>prefix_any s w'
 by_cases h2:(400:Int) < s.size
 ·have HV:Hid (formed s.data.toList=false):=by show _=_;unfold formed;rw [decide_eq_false (by omega)];rfl
  clear hl hpre
  go_enter Tryz.func61,Tryz.ntmps61
  go_wp2
  go_ret
  exact ⟨ret_bool HV.out.symm,Below.refl _ _⟩
 have HD:=hid (decide_eq_true (show s.data.toList.length≤400 by omega))
 cases hp:(s.data.toList.head? == some 47)
 case false =>
  have HV:Hid (formed s.data.toList=false):=by show _=_;unfold formed;rw [hp];simp
  rw [hp] at hpre;clear hl hp
  go_enter Tryz.func61,Tryz.ntmps61
  go_wp2_with (go_at_call 74;refine (hpre _).mono ?_;rintro e w2 ⟨rfl,hw2⟩;rw [hw2])
  go_ret
  exact ⟨ret_bool HV.out.symm,Below.refl _ _⟩
 have HP:=hid hp;rw [hp] at hpre;clear hp
 cases k1:(s.toList == [47])
 case true =>
  have HV:Hid (formed s.data.toList=true):=by show _=_;unfold formed;rw [HD.out,HP.out,←tl,k1];rfl
  clear hl
  go_enter Tryz.func61,Tryz.ntmps61
  go_wp2_with (go_at_call 74;refine (hpre _).mono ?_;rintro e w2 ⟨rfl,hw2⟩;rw [hw2])
  go_ret
  exact ⟨ret_bool HV.out.symm,Below.refl _ _⟩
 have HV:Hid (formed s.data.toList=noTwo s.data.toList):=by
  show _=_;unfold formed;rw [HD.out,HP.out,←tl,k1];rfl
 have HL:=hid hl;clear hl HD HP
 go_enter Tryz.func61,Tryz.ntmps61
 go_wp2_with (go_at_call 74;refine (hpre _).mono ?_;rintro e w2 ⟨rfl,hw2⟩;have hw3:=hw2.symm;subst hw3)
 clear k1 h2 e1 hpre
 go_loopg [3,5] s.size (fun g a _ wx=>∃ (i:Nat) (la:Int),a=.int .i32 la∧i + g=s.size∧wx.heap[w.heap.size]? = some (.stringIter s i)∧Below w.heap.size w wx∧Hid (Seen s.data.toList i la))
 case atStart=>exact ⟨0,0,rfl,by omega,w.iter_heap s 0,(Below.refl _ _).alloc (Nat.le_refl _) _,Seen.zero _⟩
 case round =>
  obtain ⟨i,la,rfl,hig,hit,hbw,HN⟩:=hrel;obtain ⟨Wx,hWx⟩:∃ y,y=wr:=⟨_,rfl⟩;subst hWx
  cases gk with
  | zero =>
   obtain rfl:i=s.size:=by omega
   have hnx:=fun ty=>run_nextE Wx w.heap.size s s.size ty hit (by omega)
   clear hit
   go_wp2
   go_ret
   exact ⟨ret_bool (by rw [HV.out];exact (Seen.end (by rw [HL.out];exact HN.out)).symm),hbw⟩
  | succ g =>
   have hi:i < s.size:=by omega
   have hnx:=fun ty=>run_nextG Wx w.heap.size s i ty hit hi
   have hxl:=dat_at s i hi;have eget:=get_at s i hi
   by_cases hlo:(s[i]'hi).toNat < 128
   ·rw [decode_ascii s i hi hlo] at hnx
    obtain ⟨x,hx⟩:∃ x:UInt8,s[i]'hi=x:=⟨_,rfl⟩;rw [hx] at hnx hxl hlo;obtain ⟨W2,hW2⟩:∃ y,y=({ Wx with heap:=Wx.heap.setIfInBounds w.heap.size (.stringIter s (i + 1)) }:World):=⟨_,rfl⟩
    have t2:W2.heap[w.heap.size]? = some (.stringIter s (i + 1)):=by rw [hW2];exact iter_at hit
    have b2:Below w.heap.size w W2:=by rw [hW2];exact iter_below hbw (Nat.le_refl _)
    have hnx':∀ ty,(Instr.next (.pointer (some ⟨w.heap.size,0,none⟩)) true ty).run Tryz.prog Wx=.ok (.tuple #[.bool true,.int .i64 i,.int .i32 (x.toNat:Int)]) W2:=fun ty=>by rw [hW2];exact hnx ty
    have HX:=hid hxl;clear hnx hW2 hit eget hx hxl
    by_cases c1:x=47
    ·subst c1
     by_cases c2:la=47
     ·have HB:=hid (HN.out.bad HX.out c2)
      subst c2
      go_wp2
      go_ret
      exact ⟨ret_bool (by rw [HV.out,HB.out]),b2⟩
     ·have n1:(la == 47)=false:=by simp [c2]
      have HC:=hid (HN.out.succ HX.out (fun h=>c2 h.2))
      go_wp2
      go_roundg g
      case measure=>omega
      case rel=>exact ⟨i + 1,_,rfl,by omega,t2,b2,HC⟩
    ·have n1:((x.toNat:Int) == 47)=false:=by
      simp only [beq_eq_false_iff_ne];intro e;exact c1 (UInt8.toNat_inj.1 (by have:(47:UInt8).toNat=47:=rfl;omega))
     have HC:=hid (HN.out.succ HX.out (fun h=>c1 h.1))
     go_wp2
     go_roundg g
     case measure=>omega
     case rel=>exact ⟨i + 1,_,rfl,by omega,t2,b2,HC⟩
   ·obtain ⟨c,n,hdec,hc0,hc1,hn1,hall⟩:=dec_hi s i hi (by rw [eget];omega)
    rw [hdec] at hnx;obtain ⟨W2,hW2⟩:∃ y,y=({ Wx with heap:=Wx.heap.setIfInBounds w.heap.size (.stringIter s (i + n)) }:World):=⟨_,rfl⟩
    have t2:W2.heap[w.heap.size]? = some (.stringIter s (i + n)):=by rw [hW2];exact iter_at hit
    have b2:Below w.heap.size w W2:=by rw [hW2];exact iter_below hbw (Nat.le_refl _)
    have hnx':∀ ty,(Instr.next (.pointer (some ⟨w.heap.size,0,none⟩)) true ty).run Tryz.prog Wx=.ok (.tuple #[.bool true,.int .i64 i,.int .i32 (c:Int)]) W2:=fun ty=>by rw [hW2];exact hnx ty
    have HNN:=hid (HN.out.more n hn1 (show (128:Int)≤c by omega) hall);have hlast:=(hall (n - 1) (by omega)).1
    have n1:((c:Int) == 47)=false:=by simp only [beq_eq_false_iff_ne];omega
    clear hnx hW2 hit eget hxl hlo hall hdec
    go_wp2
    go_roundg (s.size - (i + n))
    case measure=>omega
    case rel=>exact ⟨i + n,_,rfl,by omega,t2,b2,HNN⟩

end Go.Proofs.YtmgfilacepnjlaaGreatDoor
