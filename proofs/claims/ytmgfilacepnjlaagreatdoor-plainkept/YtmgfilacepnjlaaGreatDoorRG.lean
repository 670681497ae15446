/-
 package plain: move, replace.
-/
import Derived.Test.YtmgfilacepnjlaaGreatDoorRD
namespace Go.Proofs.YtmgfilacepnjlaaGreatDoor
open Go.RowKit

theorem take_ext {α:Type} {l m:List α} {j:Nat} {x y:α} (h:l.take j=m.take j) (hx:l[j]? = some x) (hy:m[j]? = some y):(l.take (j + 1)=m.take (j + 1))↔x=y:=by
 rw [List.take_add_one,List.take_add_one,hx,hy,h]
 simp
theorem LAt.cell {w:World} {a:Option Addr} {ls:List ByteArray} (h:LAt w a ls) {j:Nat} (hj:j < ls.length):∃ g,a=some ⟨g,0,none⟩∧∀ x,ls[j]? = some x→w.cell? ⟨g,j,none⟩=some (.string x):=by
 rcases h with e | ⟨g,h1,h2,h3⟩
 ·rw [e] at hj;exact absurd hj (Nat.not_lt_zero _)
 ·exact ⟨g,h1,fun x hx=>h3 j x hx⟩
set_option maxHeartbeats 2000000 in
set_option maxRecDepth 100000 in
theorem equal_any (ls ts:List ByteArray) (a b:Option Addr) (ca cb:Nat) (w:World) (hl:LAt w a ls) (ht:LAt w b ts) (hb:ls.length≤1000) :
  Calls Tryz.prog 68 #[.slice a ls.length ca,.slice b ts.length cb] w fun e w'=>e=.returned (.bool (decide (ls=ts)))∧Chg w w' No:=by
 obtain ⟨R,hR⟩:∃ y,y=decide (ls=ts):=⟨_,rfl⟩;rw [←hR];have HR:=hid hR;obtain ⟨n,hn⟩:∃ y,y=ls.length:=⟨_,rfl⟩;obtain ⟨m,hm⟩:∃ y,y=ts.length:=⟨_,rfl⟩;rw [←hn] at hb;rw [←hn,←hm];have HN:=hid hn;have HM:=hid hm;have HL:=hid hl;have HT:=hid ht;clear hl ht hn hm hR
 by_cases e:n=m
 ·subst e
  go_enter Tryz.func68,Tryz.ntmps68
  go_wp2_with fail
  go_loopw [13] (fun x13 wr=>∃ j:Nat,x13=.int .i64 (j:Int)∧j≤n∧Hid (ls.take j=ts.take j)∧Hid (Chg w wr No)) (fun x13 _=>n - (intOf x13).toNat)
  case atStart=>exact ⟨0,rfl,Nat.zero_le _,hid rfl,hid (Chg.refl _ _)⟩
  case round =>
   obtain ⟨j,rfl,hj,HE,HC⟩:=hrel
   by_cases e:j=n
   ·subst e
    have HRe:Hid (R=true):=hid (by
     have h1:=HE.out;rw [List.take_of_length_le (by rw [←HN.out];exact Nat.le_refl _),List.take_of_length_le (by rw [←HM.out];exact Nat.le_refl _)] at h1
     rw [HR.out,decide_eq_true h1])
    go_wp2_with fail
    go_ret
    exact ⟨by rw [HRe.out];rfl,HC.out⟩
   ·have f1:(j:Int) < (n:Int):=by omega
    have f0:(0:Int)≤(j:Int):=by omega
    obtain ⟨x,hx⟩:∃ x,ls[j]? = some x:=⟨_,List.getElem?_eq_getElem (by rw [←HN.out];omega)⟩;obtain ⟨y,hy⟩:∃ y,ts[j]? = some y:=⟨_,List.getElem?_eq_getElem (by rw [←HM.out];omega)⟩;obtain ⟨g1,e1,k1⟩:=(HL.out.call HC.out).cell (j:=j) (by rw [←HN.out];omega);obtain ⟨g2,e2,k2⟩:=(HT.out.call HC.out).cell (j:=j) (by rw [←HM.out];omega);subst e1 e2
    have K1:Hid (∀ W,Chg wr W No→W.cell? ⟨g1,j,none⟩=some (.string x)):=hid (fun W hW=>by
     obtain ⟨g,e,k⟩:=((HL.out.call HC.out).call hW).cell (j:=j) (by rw [←HN.out];omega)
     cases e
     exact k x hx)
    have K2:Hid (∀ W,Chg wr W No→W.cell? ⟨g2,j,none⟩=some (.string y)):=hid (fun W hW=>by
     obtain ⟨g,e,k⟩:=((HT.out.call HC.out).call hW).cell (j:=j) (by rw [←HM.out];omega)
     cases e
     exact k y hy)
    have HTe:=hid (take_ext HE.out hx hy)
    have HNe:Hid (¬ x=y→R=false):=hid (fun hne=>by
     rw [HR.out];refine decide_eq_false (fun e=>hne ?_);rw [e] at hx;rw [hx] at hy
     exact Option.some.inj hy)
    have hd:Chg wr wr.drew No:=(Chg.refl _ _).drew;have HCd:=hid (HC.out.tr hd);clear k1 k2 hx hy
    go_upto_region 6 with fail
    refine wp_region_noPanic ?_;refine wp_region_held_drew (S:=fun W=>Chg wr W No) (by kernel_rfl) hd (fun hH => ?_);refine tV 0 16 (.slice (some ⟨g1,0,none⟩) n ca) rfl (by kernel_rfl) rfl (by rfl) hH (fun W' hw'=>rfl) ?_;simp only [sS];refine tV 1 17 (.int .i64 (j:Int)) rfl (by kernel_rfl) rfl (by rfl) hH (fun W' hw'=>rfl) ?_;simp only [sS];refine tV 2 18 (.pointer (some ⟨g1,j,none⟩)) rfl (by kernel_rfl) rfl (by rfl) hH (fun W' hw'=>by go_simp) ?_;simp only [sS];refine tV 3 19 (.string x) rfl (by kernel_rfl) rfl (by rfl) hH (fun W' hw'=>by have hc:=K1.out W' hw';go_simp) ?_;simp only [sS];refine tV 4 20 (.slice (some ⟨g2,0,none⟩) n cb) rfl (by kernel_rfl) rfl (by rfl) hH (fun W' hw'=>rfl) ?_;simp only [sS];refine tV 5 21 (.int .i64 (j:Int)) rfl (by kernel_rfl) rfl (by rfl) hH (fun W' hw'=>rfl) ?_;simp only [sS];refine tV 6 22 (.pointer (some ⟨g2,j,none⟩)) rfl (by kernel_rfl) rfl (by rfl) hH (fun W' hw'=>by go_simp) ?_;simp only [sS];refine tV 7 23 (.string y) rfl (by kernel_rfl) rfl (by rfl) hH (fun W' hw'=>by have hc:=K2.out W' hw';go_simp) ?_;simp only [sS]
    by_cases hxy:x=y
    ·subst hxy
     refine tV 8 24 (.bool false) rfl (by kernel_rfl) rfl (by rfl) hH (fun W' hw'=>by go_simp) ?_;simp only [sS];refine wpAnyH_done (by kernel_rfl) ?_ _;refine NoPanic.normal ?_;have HE2:=hid (HTe.out.2 rfl);clear hH hd
     go_wp2_with fail
     exact ⟨⟨j + 1,by go_num,by omega,HE2,HCd⟩,by simp [intOf];omega⟩
    ·have hne : ¬ x.toList=y.toList:=fun e=>hxy (data_inj (by rw [←tl,←tl];exact e))
     have b1:(x.toList == y.toList)=false:=beq_eq_false_iff_ne.2 hne;have HRe:=hid (HNe.out hxy);refine tV 8 24 (.bool true) rfl (by kernel_rfl) rfl (by rfl) hH (fun W' hw'=>by go_simp) ?_;simp only [sS];refine wpAnyH_done (by kernel_rfl) ?_ _;refine NoPanic.normal ?_;clear hH hd
     go_wp2_with fail
     go_ret
     exact ⟨by rw [HRe.out];rfl,HCd.out⟩
 ·have HRe:Hid (R=false):=hid (by
   rw [HR.out];refine decide_eq_false (fun h=>e ?_)
   rw [HN.out,HM.out,h])
  have hne : ¬ (n:Int)=(m:Int):=by omega
  have b1:((n:Int) == (m:Int))=false:=beq_eq_false_iff_ne.2 hne
  go_enter Tryz.func68,Tryz.ntmps68
  go_wp2_with fail
  go_ret
  exact ⟨by rw [HRe.out];rfl,Chg.refl _ _⟩
def belowB (ls top:List ByteArray):Bool:=decide (top.length < ls.length∧ls.take top.length=top)
set_option maxHeartbeats 2000000 in
set_option maxRecDepth 100000 in
theorem isBelow_any (ls ts:List ByteArray) (a b:Option Addr) (w:World) (hl:LAt w a ls) (ht:LAt w b ts) (hb:ls.length≤1000) (hbt:ts.length≤1000) :
  Calls Tryz.prog 51 #[.slice a ls.length ls.length,.slice b ts.length ts.length] w fun e w'=>e=.returned (.bool (belowB ls ts))∧Chg w w' No:=by
 by_cases hlt:ts.length < ls.length
 ·have hT:LAt w a (ls.take ts.length):=by
   rcases hl with e | ⟨g,h1,h2,h3⟩
   ·exact .inl (by rw [e];simp)
   ·exact .inr ⟨g,h1,h2,fun j x hj=>h3 j x (by rw [List.getElem?_take] at hj;split at hj;exact hj;cases hj)⟩
  have hlen:(ls.take ts.length).length=ts.length:=by rw [List.length_take];omega
  have hEq:=equal_any (ls.take ts.length) ts a b ls.length ts.length w hT ht (by omega);rw [hlen] at hEq
  have HB:Hid (belowB ls ts=decide (ls.take ts.length=ts)):=hid (by
   unfold belowB
   by_cases e:ls.take ts.length=ts
   ·rw [decide_eq_true e,decide_eq_true ⟨hlt,e⟩]
   ·rw [decide_eq_false e,decide_eq_false (fun h=>e h.2)])
  obtain ⟨g,ea,_⟩:=hl.cell (j:=0) (by omega);subst ea;obtain ⟨R,hR⟩:∃ y,y=decide (ls.take ts.length=ts):=⟨_,rfl⟩;rw [←hR] at hEq HB;rw [HB.out];obtain ⟨n,hn⟩:∃ y,y=ls.length:=⟨_,rfl⟩;obtain ⟨m,hm⟩:∃ y,y=ts.length:=⟨_,rfl⟩;rw [←hn,←hm] at hEq hlt;rw [←hn] at hb;rw [←hm] at hbt;rw [←hn,←hm]
  have f1:(m:Int) < (n:Int):=by omega
  have f2:(m:Int)≤(n:Int):=by omega
  have f0:(0:Int)≤(m:Int):=by omega
  clear hl ht hT hlen HB hR hn hm
  go_enter Tryz.func51,Tryz.ntmps51
  go_wp2_with (first
   | (go_at_call 68;go_must (refine hEq.mono ?_;rintro e w1 ⟨rfl,hc1⟩;have HC1:=hid hc1;clear hc1))
   | fail)
  go_ret
  exact ⟨rfl,HC1.out⟩
 ·have HB:Hid (belowB ls ts=false):=hid (by unfold belowB;exact decide_eq_false (fun h=>hlt h.1))
  rw [HB.out];obtain ⟨n,hn⟩:∃ y,y=ls.length:=⟨_,rfl⟩;obtain ⟨m,hm⟩:∃ y,y=ts.length:=⟨_,rfl⟩;rw [←hn,←hm] at hlt;rw [←hn,←hm]
  have f1 : ¬ (m:Int) < (n:Int):=by omega
  clear hl ht HB hn hm
  go_enter Tryz.func51,Tryz.ntmps51
  go_wp2_with fail
  go_ret
  exact ⟨rfl,Chg.refl _ _⟩
end Go.Proofs.YtmgfilacepnjlaaGreatDoor

namespace Go.Proofs.YtmgfilacepnjlaaGreatDoor
open Go.RowKit

theorem nodup_lenA {α:Type} [DecidableEq α]:∀ (l L:List α),l.Pairwise (· ≠ ·)→(∀ x,x∈l→x∈L)→l.length≤L.length
 | [],L,_,_=>Nat.zero_le _
 | a :: l,L,hp,hs=>by
  obtain ⟨h1,h2⟩:=List.pairwise_cons.1 hp;have ha:=hs a (List.mem_cons_self ..);have:=nodup_lenA l (L.erase a) h2 (fun x hx=>(List.mem_erase_of_ne (fun e=>h1 x hx e.symm)).2 (hs x (List.mem_cons_of_mem _ hx)));rw [List.length_erase_of_mem ha] at this;have:0 < L.length:=List.length_pos_of_mem ha
  simp only [List.length_cons]
  omega
theorem keys_ofT {w:World} {b n:Nat} {D:DataW Value} (h:w.ownsMap Tryz.prog 9 decV b n D):∃ l:List (List UInt8),l.Pairwise (· ≠ ·)∧l.length=Maps.size D∧∀ x,x∈l↔Maps.has D (.string x)=true:=by
 obtain ⟨es,hD,hp,hk⟩:=h.entries keyS
 have hint:∀ p∈es,∃ x,p.1=.string x:=by
  obtain ⟨es',clock,_,F,_,hD'⟩:=h;rw [hD] at hD'
  cases hD'
  intro p hp
  obtain ⟨x,hx,rfl⟩:=List.mem_map.1 (mem_sorted.1 hp);obtain ⟨y,hy⟩:=F.reads x hx;obtain ⟨t,_,hl,_⟩:=WideMaps.string_of_keyOf Tryz.underlying9 (WideElems.rd_key hy);rw [WideElems.rg_of hy]
  exact ⟨_,hl⟩
 refine ⟨es.map (fun p=>match p.1 with | .string x=>x | _=>[]),?_,?_,?_⟩
 ·rw [List.pairwise_map]
  refine List.Pairwise.imp_of_mem ?_ hp
  intro p q hp hq hne
  obtain ⟨x,hx⟩:=hint p hp;obtain ⟨y,hy⟩:=hint q hq;rw [hx,hy] at hne;rw [hx,hy]
  simpa using hne
 ·rw [hD];simp [Maps.size]
 ·intro x
  rw [hD,Maps.has_eq,List.any_eq_true]
  constructor
  ·intro hx
   obtain ⟨p,hp,e⟩:=List.mem_map.1 hx;obtain ⟨y,hy⟩:=hint p hp;rw [hy] at e
   simp at e
   subst e
   exact ⟨p,hp,by rw [hy];exact WideAt.sameKey_self (keyLitS _)⟩
  ·rintro ⟨p,hp,hs⟩
   have:=WideAt.sameKey_eq hs
   exact List.mem_map.2 ⟨p,hp,by rw [this]⟩
theorem MapT.same {w w':World} {b b' n m:Nat} {f g:ByteArray→Option Int} (h:MapT w b f n) (k:MapT w' b' g m) (hs:∀ x,(g x).isSome=(f x).isSome):MapT w' b' g n:=by
 obtain ⟨D,ho,hn,hh,_⟩:=h;obtain ⟨D',ho',hm,hh',ha'⟩:=k;refine ⟨D',ho',?_,hh',ha'⟩;obtain ⟨l,hp,hl,hx⟩:=keys_ofT ho;obtain ⟨l',hp',hl',hx'⟩:=keys_ofT ho'
 have:=nodup_lenA l' l hp' (fun x hm=>by
  have h1:=(hx' x).1 hm;refine (hx x).2 ?_;have e:=hh ⟨x.toArray⟩;have e':=hh' ⟨x.toArray⟩
  have e3:(⟨x.toArray⟩:ByteArray).data.toList=x:=by simp
  rw [e3] at e e';rw [e,←hs,←e']
  exact h1)
 omega
def entO (x:Nd) (k:Nat) (s:ByteArray) (i:Int):Nd:={ entN x k s i with cnt:=x.cnt }
theorem IsN.old {w w':World} {c c':NC} {x:Nd} {k:Nat} {s:ByteArray} {i:Int} (h:IsN w c x) (h':IsN w' c' (entN x k s i)) (hs:(x.nm s).isSome=true):IsN w' c' (entO x k s i) :=
 ⟨h'.me,h'.bl,h'.sl,h.nm.same h'.nm (fun y=>by
  show (if y=s then some (k:Int) else x.nm y).isSome=_
  by_cases e:y=s
  ·rw [if_pos e,e,hs];rfl
  ·rw [if_neg e]),h.cn,h'.ne,h'.len,h'.dom⟩
theorem enter_old {c:NC} {x:Nd} (k:Nat) (s:ByteArray) (i:Int) (w:World) (h:IsN w c x) (hk:k≤x.sl.length) (hk2:k < 1068) (hcn:x.cnt < 5000) (hs:s.size≤1000) (hB:c.B≤w.heap.size) (hn:(x.nm s).isSome=true) :
  Calls Tryz.prog 46 #[.pointer (some ⟨c.p,0,none⟩),.int .i64 (k:Int),.string s,.int .i64 i] w fun e w'=>e=.returned (.tuple #[])∧(∃ v',IsN w' { c with v:=v' } (entO x k s i)∧(v'.ownBlock=c.v.ownBlock∨∃ b,v'.ownBlock=some b∧w.heap.size≤b))∧Chg w w' (BlkN c):=by
 refine (enter_any k s i w h hk hk2 hcn hs hB).mono ?_
 rintro e w' ⟨he,⟨v',h1,h2⟩,h3⟩
 exact ⟨he,⟨v',h.old h1 hn,h2⟩,h3⟩
end Go.Proofs.YtmgfilacepnjlaaGreatDoor

namespace Go.Proofs.YtmgfilacepnjlaaGreatDoor
open Go.RowKit

set_option linter.unusedVariables false
theorem Nxt.refl (w:World) (q:PC):Nxt w q q:=⟨rfl,rfl,fun _ k=>.inl k⟩
theorem Nxt.then {w w1:World} {q q1 q2:PC} (h:Nxt w q q1) (k:Nxt w1 q1 q2) (hs:w.heap.size≤w1.heap.size):Nxt w q q2:=⟨k.p.trans h.p,k.mb.trans h.mb,fun j e=>(k.blk j e).elim (h.blk j) (fun e=>.inr (Nat.le_trans hs e))⟩
theorem behind {q:PC} {s:PSt} {c1 c2:NC} {d1 d2:Int} {x2':Nd} {w W w':World} {v':Value} (h:IsPl W q s) (hq1:q.nc d1=some c1) (hq2:q.nc d2=some c2) (hN:IsN w' { c2 with v:=v' } x2') (hv:v'.ownBlock=c2.v.ownBlock∨∃ b,v'.ownBlock=some b∧W.heap.size≤b) (hc:Chg W w' (BlkN c2)) (hs:w.heap.size≤W.heap.size) :
  ∃ q',IsPl w' q' (s.put d2 x2')∧Nxt w q q'∧(∃ c1',q'.nc d1=some c1'∧c1'.p=c1.p)∧∀ j,j≠d2→q'.nc j=q.nc j:=by
 refine ⟨_,h.turn hq2 hN rfl rfl rfl rfl hv hc,(Nxt.put hq2 hv).from hs,?_,fun j hj=>PC.put_ne _ _ hj⟩
 by_cases e:d1=d2
 ·subst e
  rw [hq1] at hq2
  cases hq2
  exact ⟨_,PC.put_at _ _ _,rfl⟩
 ·exact ⟨c1,by rw [PC.put_ne _ _ e];exact hq1,rfl⟩
set_option maxHeartbeats 3000000 in
set_option maxRecDepth 100000 in
theorem move_place {q:PC} {s:PSt} {c1 c2:NC} (d1 d2:Int) (n1 n2:ByteArray) (i:Int) (w:World) (h:IsPl w q s) (hq1:q.nc d1=some c1) (hq2:q.nc d2=some c2) (x2:Nd) (hx2:s.nd d2=some x2) (hs1:n1.size≤1000) (hs2:n2.size≤1000) (hpl:(placeL s x2).2≠0) :
  Calls Tryz.prog 53 #[.pointer (some ⟨q.p,0,none⟩),.agg #[.pointer (some ⟨c1.p,0,none⟩),.string n1],.agg #[.pointer (some ⟨c2.p,0,none⟩),.string n2],.int .i64 i] w fun e w'=>e=.returned (.int .i64 (placeL s x2).2)∧Chg w w' No:=by
 obtain ⟨w1,hw1⟩:∃ y,y=w.alloc (.cells #[.pointer (some ⟨c1.p,0,none⟩),.string n1] 95):=⟨_,rfl⟩;obtain ⟨w2,hw2⟩:∃ y,y=w1.alloc (.cells #[.pointer (some ⟨c2.p,0,none⟩),.string n2] 95):=⟨_,rfl⟩
 have hc1:Chg w w1 No:=by rw [hw1];exact Chg.alloc _ _ No
 have hc2:Chg w1 w2 No:=by rw [hw2];exact Chg.alloc _ _ No
 have hz1:w1.heap.size=w.heap.size + 1:=by rw [hw1];simp
 have G1:Hid (w2.heap[w.heap.size]? = some (.cells #[.pointer (some ⟨c1.p,0,none⟩),.string n1] 95 (0,0))):=hid (hc2.keep (by rw [hw1];exact heap_alloc_new _ _) (fun e=>e));have G2:Hid (w2.heap[w.heap.size + 1]? = some (.cells #[.pointer (some ⟨c2.p,0,none⟩),.string n2] 95 (0,0))):=hid (by rw [hw2,←hz1];exact heap_alloc_new _ _);have HC2:=hid (hc1.tr hc2)
 have e12:w2=(w.alloc (.cells #[.pointer (some ⟨c1.p,0,none⟩),.string n1] 95)).alloc (.cells #[.pointer (some ⟨c2.p,0,none⟩),.string n2] 95):=by rw [hw2,hw1]
 obtain ⟨ga,hga⟩:∃ y,y=w.heap.size:=⟨_,rfl⟩;obtain ⟨gb,hgb⟩:∃ y,y=w.heap.size + 1:=⟨_,rfl⟩;rw [←hga] at G1;rw [←hgb] at G2;have HGa:Hid (w.heap.size≤ga∧w.heap.size≤gb∧ga=w.heap.size∧gb=w.heap.size + 1):=hid ⟨by omega,by omega,hga,hgb⟩;have HPl:=hid (place_any w2 (h.call HC2.out) ((h.at hq2 hx2).call HC2.out));obtain ⟨P,hP⟩:∃ z,z=placeL s x2:=⟨_,rfl⟩;rw [←hP] at HPl hpl ⊢;obtain ⟨P1,P2⟩:=P
 simp only at HPl hpl ⊢
 have b3:(P2 == 0)=false:=beq_eq_false_iff_ne.2 hpl;have hPl:=HPl.out;have g0:w2.cell? ⟨gb,0,none⟩=some (.pointer (some ⟨c2.p,0,none⟩)):=(cell_of_row _ _ _ _ _ _ G2.out).trans rfl;clear hP h hq1 hq2 hx2 hs1 hs2 hc1 hc2 hz1 hw1 hw2 hga hgb
 go_enter Tryz.func53,Tryz.ntmps53
 go_upto_region 1 with fail
 rw [←e12,←HGa.out.2.2.2,←HGa.out.2.2.1];clear e12
 go_wp2_with (first
  | (go_at_call 44;go_must (refine hPl.mono ?_;rintro e w6 ⟨rfl,hc6⟩;have HC6:=hid (HC2.out.tr hc6);clear hc6))
  | fail)
 go_ret
 exact ⟨rfl,HC6.out⟩
set_option maxHeartbeats 3000000 in
set_option maxRecDepth 100000 in
theorem move_good {q:PC} {s:PSt} {c1 c2:NC} (d1 d2:Int) (n1 n2:ByteArray) (i:Int) (w:World) (h:IsPl w q s) (hq1:q.nc d1=some c1) (hq2:q.nc d2=some c2) (x2:Nd) (hx2:s.nd d2=some x2) (hs1:n1.size≤1000) (hs2:n2.size≤1000) (k:Nat) (hpl:placeL s x2=((k:Int),0)) (hk:k≤x2.sl.length) (hk2:k < 1068) (hcn:x2.cnt < 5000) (x1:Nd) (hx1:(s.put d2 (entN x2 k n2 i)).nd d1=some x1) (k1:Nat) (hk1:x1.nm n1=some (k1:Int)) (hk1l:k1 < x1.sl.length) :
  Calls Tryz.prog 53 #[.pointer (some ⟨q.p,0,none⟩),.agg #[.pointer (some ⟨c1.p,0,none⟩),.string n1],.agg #[.pointer (some ⟨c2.p,0,none⟩),.string n2],.int .i64 i] w fun e w'=>e=.returned (.int .i64 0)∧Done2 q ((s.put d2 (entN x2 k n2 i)).put d1 (leaN x1 k1 n1)) w w':=by
 obtain ⟨w1,hw1⟩:∃ y,y=w.alloc (.cells #[.pointer (some ⟨c1.p,0,none⟩),.string n1] 95):=⟨_,rfl⟩;obtain ⟨w2,hw2⟩:∃ y,y=w1.alloc (.cells #[.pointer (some ⟨c2.p,0,none⟩),.string n2] 95):=⟨_,rfl⟩
 have hc1:Chg w w1 No:=by rw [hw1];exact Chg.alloc _ _ No
 have hc2:Chg w1 w2 No:=by rw [hw2];exact Chg.alloc _ _ No
 have hz1:w1.heap.size=w.heap.size + 1:=by rw [hw1];simp
 have G1:Hid (w2.heap[w.heap.size]? = some (.cells #[.pointer (some ⟨c1.p,0,none⟩),.string n1] 95 (0,0))):=hid (hc2.keep (by rw [hw1];exact heap_alloc_new _ _) (fun e=>e));have G2:Hid (w2.heap[w.heap.size + 1]? = some (.cells #[.pointer (some ⟨c2.p,0,none⟩),.string n2] 95 (0,0))):=hid (by rw [hw2,←hz1];exact heap_alloc_new _ _);have HC2:=hid (hc1.tr hc2)
 have e12:w2=(w.alloc (.cells #[.pointer (some ⟨c1.p,0,none⟩),.string n1] 95)).alloc (.cells #[.pointer (some ⟨c2.p,0,none⟩),.string n2] 95):=by rw [hw2,hw1]
 obtain ⟨ga,hga⟩:∃ y,y=w.heap.size:=⟨_,rfl⟩;obtain ⟨gb,hgb⟩:∃ y,y=w.heap.size + 1:=⟨_,rfl⟩;rw [←hga] at G1;rw [←hgb] at G2;have HGa:Hid (w.heap.size≤ga∧w.heap.size≤gb∧ga=w.heap.size∧gb=w.heap.size + 1):=hid ⟨by omega,by omega,hga,hgb⟩;have HPl:=hid (place_any w2 (h.call HC2.out) ((h.at hq2 hx2).call HC2.out));rw [hpl] at HPl
 have HEn:Hid (∀ W,Chg w W No→Calls Tryz.prog 46 #[.pointer (some ⟨c2.p,0,none⟩),.int .i64 (k:Int),.string n2,.int .i64 i] W fun e w'=>e=.returned (.tuple #[])∧(∃ q',IsPl w' q' (s.put d2 (entN x2 k n2 i))∧Nxt w q q'∧∃ c1',q'.nc d1=some c1'∧c1'.p=c1.p)∧Chg W w' (BlkN c2)):=hid (fun W hW=>by
  refine (enter_any k n2 i W ((h.at hq2 hx2).call hW) hk hk2 hcn hs2 (by rw [h.bs _ _ hq2];exact Nat.zero_le _)).mono ?_
  rintro e w' ⟨he,⟨v',h1,h2⟩,h3⟩
  obtain ⟨q',r1,r2,r3,_⟩:=behind (w:=w) (h.call hW) hq1 hq2 h1 h2 h3 hW.size
  exact ⟨he,⟨q',r1,r2,r3⟩,h3⟩)
 have HLv:Hid (∀ W q' c1',IsPl W q' (s.put d2 (entN x2 k n2 i))→Nxt w q q'→q'.nc d1=some c1'→c1'.p=c1.p→Calls Tryz.prog 49 #[.pointer (some ⟨c1.p,0,none⟩),.string n1] W fun e w'=>e=.returned (.tuple #[])∧(∃ q2,IsPl w' q2 ((s.put d2 (entN x2 k n2 i)).put d1 (leaN x1 k1 n1))∧Nxt w q q2)∧Chg W w' (PBlk q')):=hid (fun W q' c1' hW hN hq hp=>by
  have:=leave_any k1 n1 W (hW.at hq hx1) hs1 hk1 hk1l;rw [hp] at this;refine this.mono ?_
  rintro e w' ⟨he,h1,h2⟩
  exact ⟨he,⟨_,hW.turn hq h1 rfl rfl rfl rfl (.inl rfl) h2,hN.then ((Sub.put hq).nxt w) (Nat.le_refl _)⟩,h2.mono fun j _ e=>PBlk.node hq e⟩)
 have HB2:Hid (∀ j,BlkN c2 j→PBlk q j):=hid (fun j e=>PBlk.node hq2 e);have HLt2:Hid (∀ j,BlkN c2 j→j < w.heap.size):=hid (fun j e=>(h.at hq2 hx2).lt e);obtain ⟨ST,hST⟩:∃ z,z=(s.put d2 (entN x2 k n2 i)).put d1 (leaN x1 k1 n1):=⟨_,rfl⟩;obtain ⟨sA,hsA⟩:∃ z,z=s.put d2 (entN x2 k n2 i):=⟨_,rfl⟩;rw [←hST] at HLv ⊢;rw [←hsA] at HEn HLv;have hPl:=HPl.out;have g0:w2.cell? ⟨gb,0,none⟩=some (.pointer (some ⟨c2.p,0,none⟩)):=(cell_of_row _ _ _ _ _ _ G2.out).trans rfl;clear hpl h hq1 hq2 hx2 hs1 hs2 hc1 hc2 hz1 hw1 hw2 hga hgb hk hk2 hcn hx1 hk1 hk1l hST hsA
 go_enter Tryz.func53,Tryz.ntmps53
 go_upto_region 1 with fail
 rw [←e12,←HGa.out.2.2.2,←HGa.out.2.2.1];clear e12
 go_upto_region 4 with (first
  | (go_at_call 44;go_must (refine hPl.mono ?_;rintro e w6 ⟨rfl,hc6⟩;have HC6:=hid (HC2.out.tr hc6);have HGa6:=hid (hc6.keep G1.out (fun e=>e));have HGb6:=hid (hc6.keep G2.out (fun e=>e));clear hc6))
  | fail)
 clear g0 hPl;have g0:w6.cell? ⟨gb,0,none⟩=some (.pointer (some ⟨c2.p,0,none⟩)):=(cell_of_row _ _ _ _ _ _ HGb6.out).trans rfl;have g1:w6.cell? ⟨gb,1,none⟩=some (.string n2):=(cell_of_row _ _ _ _ _ _ HGb6.out).trans rfl;have hEn:=HEn.out w6 HC6.out
 go_upto_region 5 with (first
  | (go_at_call 46;go_must (refine hEn.mono ?_;rintro e w7 ⟨rfl,⟨q7,hp7,hn7,c7,hq7,hcp7⟩,hc7⟩;have HC7:=hid (HC6.out.trans hc7 (c:=PBlk q) (fun _ _ e=>e.elim) (fun j _ e=>HB2.out j e));have HG7:=hid (hc7.keep HGa6.out (fun e=>by have:=HLt2.out _ e;have:=HGa.out;omega));have HN7:=hid hn7;have hLv:=HLv.out w7 q7 c7 hp7 hn7 hq7 hcp7;clear hp7 hn7 hq7 hcp7 hc7))
  | fail)
 clear g0 g1 hEn;have g0:w7.cell? ⟨ga,0,none⟩=some (.pointer (some ⟨c1.p,0,none⟩)):=(cell_of_row _ _ _ _ _ _ HG7.out).trans rfl;have g1:w7.cell? ⟨ga,1,none⟩=some (.string n1):=(cell_of_row _ _ _ _ _ _ HG7.out).trans rfl
 go_wp2_with (first
  | (go_at_call 49;go_must (refine hLv.mono ?_;rintro e w8 ⟨rfl,hp8,hc8⟩;have HP8:=hid hp8;have HC8:=hid hc8;clear hp8 hc8))
  | fail)
 go_ret
 refine ⟨rfl,HP8.out,HC7.out.trans HC8.out (fun _ _ e=>e) (fun j hj e => ?_)⟩
 rcases HN7.out.blk j e with e | e
 ·exact e
 ·omega
set_option maxHeartbeats 3000000 in
set_option maxRecDepth 100000 in
theorem replace_good {q:PC} {s:PSt} {c1 c2:NC} (d1 d2:Int) (n1 n2:ByteArray) (i:Int) (j:Int) (w:World) (h:IsPl w q s) (hq1:q.nc d1=some c1) (hq2:q.nc d2=some c2) (x2:Nd) (hx2:s.nd d2=some x2) (hs1:n1.size≤1000) (hs2:n2.size≤1000) (k2:Nat) (hk2:x2.nm n2=some (k2:Int)) (hk2l:k2 < x2.sl.length) (hcn:x2.cnt < 5000) (x1:Nd) (hx1:(s.put d2 (entO x2 k2 n2 i)).nd d1=some x1) (k1:Nat) (hk1:x1.nm n1=some (k1:Int)) (hk1l:k1 < x1.sl.length) (y:Nd) (hy:((s.put d2 (entO x2 k2 n2 i)).put d1 (leaN x1 k1 n1)).nd j=some y) (hly:1≤y.links∧y.links≤1000) :
  Calls Tryz.prog 52 #[.pointer (some ⟨q.p,0,none⟩),.agg #[.pointer (some ⟨c1.p,0,none⟩),.string n1],.agg #[.pointer (some ⟨c2.p,0,none⟩),.string n2],.int .i64 i,.int .i64 j] w fun e w'=>e=.returned (.tuple #[])∧Done2 q (loseS ((s.put d2 (entO x2 k2 n2 i)).put d1 (leaN x1 k1 n1)) j y) w w':=by
 obtain ⟨w1,hw1⟩:∃ y,y=w.alloc (.cells #[.pointer (some ⟨c1.p,0,none⟩),.string n1] 95):=⟨_,rfl⟩;obtain ⟨w2,hw2⟩:∃ y,y=w1.alloc (.cells #[.pointer (some ⟨c2.p,0,none⟩),.string n2] 95):=⟨_,rfl⟩
 have hc1:Chg w w1 No:=by rw [hw1];exact Chg.alloc _ _ No
 have hc2:Chg w1 w2 No:=by rw [hw2];exact Chg.alloc _ _ No
 have hz1:w1.heap.size=w.heap.size + 1:=by rw [hw1];simp
 have G1:Hid (w2.heap[w.heap.size]? = some (.cells #[.pointer (some ⟨c1.p,0,none⟩),.string n1] 95 (0,0))):=hid (hc2.keep (by rw [hw1];exact heap_alloc_new _ _) (fun e=>e));have G2:Hid (w2.heap[w.heap.size + 1]? = some (.cells #[.pointer (some ⟨c2.p,0,none⟩),.string n2] 95 (0,0))):=hid (by rw [hw2,←hz1];exact heap_alloc_new _ _);have HC2:=hid (hc1.tr hc2)
 have e12:w2=(w.alloc (.cells #[.pointer (some ⟨c1.p,0,none⟩),.string n1] 95)).alloc (.cells #[.pointer (some ⟨c2.p,0,none⟩),.string n2] 95):=by rw [hw2,hw1]
 obtain ⟨ga,hga⟩:∃ y,y=w.heap.size:=⟨_,rfl⟩;obtain ⟨gb,hgb⟩:∃ y,y=w.heap.size + 1:=⟨_,rfl⟩;rw [←hga] at G1;rw [←hgb] at G2;have HGa:Hid (w.heap.size≤ga∧w.heap.size≤gb∧ga=w.heap.size∧gb=w.heap.size + 1):=hid ⟨by omega,by omega,hga,hgb⟩;have hN2:=h.at hq2 hx2
 have HEn:Hid (∀ W,Chg w W No→Calls Tryz.prog 46 #[.pointer (some ⟨c2.p,0,none⟩),.int .i64 (k2:Int),.string n2,.int .i64 i] W fun e w'=>e=.returned (.tuple #[])∧(∃ q',IsPl w' q' (s.put d2 (entO x2 k2 n2 i))∧Nxt w q q'∧∃ c1',q'.nc d1=some c1'∧c1'.p=c1.p)∧Chg W w' (BlkN c2)∧w'.cell? ⟨c2.p,6,none⟩=some (.map (some c2.nb))∧∃ f m,MapT w' c2.nb f m∧f n2=some (k2:Int)):=hid (fun W hW=>by
  refine (enter_old k2 n2 i W (hN2.call hW) (by omega) (by have:=hN2.len;omega) hcn hs2 (by rw [h.bs _ _ hq2];exact Nat.zero_le _) (by rw [hk2];rfl)).mono ?_
  rintro e w' ⟨he,⟨v',h1,h2⟩,h3⟩
  obtain ⟨q',r1,r2,r3,_⟩:=behind (w:=w) (h.call hW) hq1 hq2 h1 h2 h3 hW.size
  exact ⟨he,⟨q',r1,r2,r3⟩,h3,h1.c6,_,_,h1.nm,if_pos rfl⟩)
 have HLv:Hid (∀ W q' c1',IsPl W q' (s.put d2 (entO x2 k2 n2 i))→Nxt w q q'→q'.nc d1=some c1'→c1'.p=c1.p→Calls Tryz.prog 49 #[.pointer (some ⟨c1.p,0,none⟩),.string n1] W fun e w'=>e=.returned (.tuple #[])∧(∃ q2,IsPl w' q2 ((s.put d2 (entO x2 k2 n2 i)).put d1 (leaN x1 k1 n1))∧Nxt w q q2)∧Chg W w' (PBlk q')):=hid (fun W q' c1' hW hN hq hp=>by
  have:=leave_any k1 n1 W (hW.at hq hx1) hs1 hk1 hk1l;rw [hp] at this;refine this.mono ?_
  rintro e w' ⟨he,h1,h2⟩
  exact ⟨he,⟨_,hW.turn hq h1 rfl rfl rfl rfl (.inl rfl) h2,hN.then ((Sub.put hq).nxt w) (Nat.le_refl _)⟩,h2.mono fun j _ e=>PBlk.node hq e⟩)
 have HLo:Hid (∀ W q',IsPl W q' ((s.put d2 (entO x2 k2 n2 i)).put d1 (leaN x1 k1 n1))→Nxt w q q'→Calls Tryz.prog 50 #[.pointer (some ⟨q.p,0,none⟩),.int .i64 j] W fun e w'=>e=.returned (.tuple #[])∧(∃ q2,IsPl w' q2 (loseS ((s.put d2 (entO x2 k2 n2 i)).put d1 (leaN x1 k1 n1)) j y)∧Nxt w q q2)∧Chg W w' (PBlk q')):=hid (fun W q' hW hN=>by
  obtain ⟨cj,hqj,_⟩:=hW.node hy;have:=lose_any j W hW hqj hy hly;rw [hN.p] at this;refine this.mono ?_
  rintro e w' ⟨he,⟨q2,h1,h2⟩,h3⟩
  exact ⟨he,⟨q2,h1,hN.then (h2.nxt w) (Nat.le_refl _)⟩,h3.mono fun k _ e=>e.elim (fun e=>.inr (.inl e)) (fun e=>PBlk.node hqj e)⟩)
 have HB2:Hid (∀ j,BlkN c2 j→PBlk q j):=hid (fun j e=>PBlk.node hq2 e);have HLt2:Hid (∀ j,BlkN c2 j→j < w.heap.size):=hid (fun j e=>hN2.lt e);have HS2:=hid hs2;have HM0:Hid (∀ W,Chg w W No→W.cell? ⟨c2.p,6,none⟩=some (.map (some c2.nb))∧∃ f m,MapT W c2.nb f m∧f n2=some (k2:Int)):=hid (fun W hW=>⟨(hN2.call hW).c6,_,_,(hN2.call hW).nm,hk2⟩);obtain ⟨ST,hST⟩:∃ z,z=loseS ((s.put d2 (entO x2 k2 n2 i)).put d1 (leaN x1 k1 n1)) j y:=⟨_,rfl⟩;rw [←hST] at HLo ⊢;obtain ⟨sB,hsB⟩:∃ z,z=(s.put d2 (entO x2 k2 n2 i)).put d1 (leaN x1 k1 n1):=⟨_,rfl⟩;rw [←hsB] at HLo HLv;obtain ⟨sA,hsA⟩:∃ z,z=s.put d2 (entO x2 k2 n2 i):=⟨_,rfl⟩;rw [←hsA] at HEn HLv;clear h hq1 hq2 hx2 hs1 hs2 hc1 hc2 hz1 hw1 hw2 hga hgb hk2 hk2l hcn hx1 hk1 hk1l hST hsA hsB hN2 hy hly
 go_enter Tryz.func52,Tryz.ntmps52
 go_upto_region 1 with fail
 rw [←e12,←HGa.out.2.2.2,←HGa.out.2.2.1];clear e12;obtain ⟨w3,hw3⟩:∃ y,y=w2.drew:=⟨_,rfl⟩
 have hc3:Chg w2 w3 No:=by rw [hw3];exact (Chg.refl _ _).drew
 have HC3:=hid (HC2.out.tr hc3);have HGa3:=hid (hc3.keep G1.out (fun e=>e));have HGb3:=hid (hc3.keep G2.out (fun e=>e));have HM3:=hid (HM0.out w3 HC3.out);refine wp_region_noPanic ?_;refine wp_region_held_drew (S:=fun W=>W.heap[gb]? = some (.cells #[.pointer (some ⟨c2.p,0,none⟩),.string n2] 95 (0,0))∧W.cell? ⟨c2.p,6,none⟩=some (.map (some c2.nb))∧∃ f m,MapT W c2.nb f m∧f n2=some (k2:Int)) (by kernel_rfl) (by rw [←hw3];exact ⟨HGb3.out,HM3.out⟩) (fun hH => ?_);rw [←hw3] at hH ⊢;clear hc3 hw3;refine tV 0 10 (.pointer (some ⟨gb,0,none⟩)) rfl (by kernel_rfl) rfl (by rfl) hH (fun W' hw'=>by go_simp) ?_;simp only [sS];refine tV 1 11 (.pointer (some ⟨c2.p,0,none⟩)) rfl (by kernel_rfl) rfl (by rfl) hH (fun W' hw'=>by have hc:W'.cell? ⟨gb,0,none⟩=some (.pointer (some ⟨c2.p,0,none⟩)):=(cell_of_row _ _ _ _ _ _ hw'.1).trans rfl;go_simp) ?_;simp only [sS];refine tV 2 12 (.pointer (some ⟨gb,0,none⟩)) rfl (by kernel_rfl) rfl (by rfl) hH (fun W' hw'=>by go_simp) ?_;simp only [sS];refine tV 3 13 (.pointer (some ⟨c2.p,0,none⟩)) rfl (by kernel_rfl) rfl (by rfl) hH (fun W' hw'=>by have hc:W'.cell? ⟨gb,0,none⟩=some (.pointer (some ⟨c2.p,0,none⟩)):=(cell_of_row _ _ _ _ _ _ hw'.1).trans rfl;go_simp) ?_;simp only [sS];refine tV 4 14 (.pointer (some ⟨c2.p,0,none⟩)) rfl (by kernel_rfl) rfl (by rfl) hH (fun W' hw'=>by go_simp) ?_;simp only [sS];refine tV 5 15 (.pointer (some ⟨c2.p,6,none⟩)) rfl (by kernel_rfl) rfl (by rfl) hH (fun W' hw'=>by go_simp) ?_;simp only [sS];refine tV 6 16 (.map (some c2.nb)) rfl (by kernel_rfl) rfl (by rfl) hH (fun W' hw'=>by have hc:=hw'.2.1;go_simp) ?_;simp only [sS];refine tV 7 17 (.pointer (some ⟨gb,1,none⟩)) rfl (by kernel_rfl) rfl (by rfl) hH (fun W' hw'=>by go_simp) ?_;simp only [sS];refine tV 8 18 (.string n2) rfl (by kernel_rfl) rfl (by rfl) hH (fun W' hw'=>by have hc:W'.cell? ⟨gb,1,none⟩=some (.string n2):=(cell_of_row _ _ _ _ _ _ hw'.1).trans rfl;go_simp) ?_;simp only [sS];refine tV 9 19 (.int .i64 (k2:Int)) rfl (by kernel_rfl) rfl (by rfl) hH (fun W' hw'=>by obtain ⟨_,_,f,m,hm,hf⟩:=hw';have hc:=hm.look HS2.out;rw [hf] at hc;have hc:(Instr.lookup 104 (.map (some c2.nb)) (.string n2) false).run Tryz.prog W'=.ok (.int .i64 (k2:Int)) W':=hc;go_simp) ?_;simp only [sS];refine tV 10 20 (.pointer (some ⟨gb,1,none⟩)) rfl (by kernel_rfl) rfl (by rfl) hH (fun W' hw'=>by go_simp) ?_;simp only [sS];refine tV 11 21 (.string n2) rfl (by kernel_rfl) rfl (by rfl) hH (fun W' hw'=>by have hc:W'.cell? ⟨gb,1,none⟩=some (.string n2):=(cell_of_row _ _ _ _ _ _ hw'.1).trans rfl;go_simp) ?_;simp only [sS];refine tV 12 22 (.int .i64 i) rfl (by kernel_rfl) rfl (by rfl) hH (fun W' hw'=>rfl) ?_;simp only [sS];refine step1 13 (by kernel_rfl) ?_;refine stCall 13 23 46 #[.pointer (some ⟨c2.p,0,none⟩),.int .i64 (k2:Int),.string n2,.int .i64 i] _ rfl rfl (by rfl) (by go_simp) (HEn.out w3 HC3.out) ?_
 rintro e w7 ⟨rfl,⟨q7,hp7,hn7,c7,hq7,hcp7⟩,hc7,hm7⟩
 have hgb7:w7.heap[gb]? = some (.cells #[.pointer (some ⟨c2.p,0,none⟩),.string n2] 95 (0,0)):=hc7.keep HGb3.out (fun e=>by have:=HLt2.out _ e;have:=HGa.out;omega);refine ⟨_,rfl,⟨hgb7,hm7⟩,?_⟩;simp only [sS];refine wpAnyH_done (by kernel_rfl) ?_ _;refine NoPanic.normal ?_;have HC7:=hid (HC3.out.trans hc7 (c:=PBlk q) (fun _ _ e=>e.elim) (fun j _ e=>HB2.out j e));have HG7:=hid (hc7.keep HGa3.out (fun e=>by have:=HLt2.out _ e;have:=HGa.out;omega));have HN7:=hid hn7;have hLv:=HLv.out w7 q7 c7 hp7 hn7 hq7 hcp7;have HLtG:Hid (∀ j,PBlk q7 j→j < w.heap.size→PBlk q j):=hid (fun j e hj=>(hn7.blk j e).elim id (fun e=>by omega))
 have HQ7:Hid (∀ j,PBlk q7 j→j≠ga):=hid (fun j e f=>by
  rcases e with e | e | ⟨l,d,e1,e2⟩
  ·have a1:=hp7.me
   rw [←e,f,HG7.out] at a1
   cases a1
  ·obtain ⟨es,cl,hm⟩:=hp7.mp.isMap
   rw [←e,f,HG7.out] at hm
   cases hm
  ·obtain ⟨xx,_,hNN⟩:=hp7.nd l d e1
   rcases e2 with e | e | e | e
   ·have a1:=hNN.me
    rw [←e,f,HG7.out] at a1
    cases a1
   ·obtain ⟨es,cl,hm⟩:=hNN.bl.isMap
    rw [←e,f,HG7.out] at hm
    cases hm
   ·obtain ⟨es,cl,hm⟩:=hNN.nm.isMap
    rw [←e,f,HG7.out] at hm
    cases hm
   ·obtain ⟨_,A,hA⟩:=hNN.sl.blk e
    rw [f,HG7.out] at hA
    cases hA)
 have g0:w7.cell? ⟨ga,0,none⟩=some (.pointer (some ⟨c1.p,0,none⟩)):=(cell_of_row _ _ _ _ _ _ HG7.out).trans rfl;have g1:w7.cell? ⟨ga,1,none⟩=some (.string n1):=(cell_of_row _ _ _ _ _ _ HG7.out).trans rfl;clear hH hp7 hn7 hq7 hcp7 hc7 hm7 hgb7
 go_upto_region 3 with (first
  | (go_at_call 49;go_must (refine hLv.mono ?_;rintro e w8 ⟨rfl,⟨q8,hp8,hn8⟩,hc8⟩;have HC8:=hid (HC7.out.trans hc8 (fun _ _ e=>e) (fun j hj e=>HLtG.out j e hj));have HN8:=hid hn8;have hLo:=HLo.out w8 q8 hp8 hn8;clear hp8 hn8 hc8))
  | fail)
 clear g0 g1 hLv
 go_wp2_with (first
  | (go_at_call 50;go_must (refine hLo.mono ?_;rintro e w9 ⟨rfl,hp9,hc9⟩;have HP9:=hid hp9;have HC9:=hid hc9;clear hp9 hc9))
  | fail)
 go_end0
 refine ⟨rfl,HP9.out,HC8.out.trans HC9.out (fun _ _ e=>e) (fun j hj e => ?_)⟩
 rcases HN8.out.blk j e with e | e
 ·exact e
 ·omega
end Go.Proofs.YtmgfilacepnjlaaGreatDoor
