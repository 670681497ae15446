/-
 PlainKept's model: a path is another one then.
-/
import Derived.Test.YtmgfilacepnjlaaGreatDoorYE
namespace Go.Proofs.YtmgfilacepnjlaaGreatDoor
open Go.RowKit Go.PlainAid

set_option maxHeartbeats 4000000 in
set_option maxRecDepth 100000 in
theorem mo_drop {B:Nat} {c:MC} {m:Mo} {ls:List ByteArray} (w:World) (h:IsMo w B c m) (hk:MoOk m) (hl:LL ls) (hB:B≤w.heap.size):Calls Tryz.prog 32 #[.pointer (some ⟨c.g,0,none⟩),.string (TP ls)] w fun e w'=>e=.returned (.tuple #[])∧∃ pv,IsMo w' B { c with pv:=pv } (dropM m ls)∧Chg w w' (· = c.g):=by
 obtain ⟨n,hn⟩:∃ y,y=m.paths.length:=⟨_,rfl⟩;obtain ⟨_,a,cp,hpv⟩:=h.shape;obtain ⟨_,q1,_⟩:=h.cells;rw [hpv,←hn] at q1;obtain ⟨t,ht⟩:∃ y,y=TP ls:=⟨_,rfl⟩;rw [←ht]
 have n1:(n:Int)≤2199023255552:=by have:=hk.np;omega
 have HN:=hid hn;have HT:=hid ht;have H:=hid h;have HK:=hid hk;have HL:=hid hl;have HPv:=hid hpv;have HB:=hid hB;obtain ⟨g,hg⟩:∃ y,y=c.g:=⟨_,rfl⟩;have HG:=hid hg;rw [←hg] at q1
 have HQ1:Hid (∀ W,Chg w W No→W.cell? ⟨g,1,none⟩=some (.slice a n cp)):=hid (fun W hW=>by
  have:=(h.call hW).cells.2.1;rw [←hg,hpv,←hn] at this
  exact this)
 rw [←hg];clear hn ht h hk hl hpv hg hB
 go_enter Tryz.func32,Tryz.ntmps32
 clear q1
 go_upto_region 2 with fail
 go_loopw [4,5] (fun x4 x5 wr=>∃ (v:Value) (i:Nat),v=x4∧x5=.int .i64 (i:Int)∧i≤n∧Hid (wr.ownsRow w.heap.size 76 2 v (dropL (m.paths.take i) ls).length ((dropL (m.paths.take i) ls).flatMap enC)∧Chg w wr No)) (fun _ x5 _=>n - (intOf x5).toNat)
 case atStart=>exact ⟨_,0,rfl,rfl,Nat.zero_le _,hid ⟨World.ownsRow_nil w _ 76 2,Chg.refl _ _⟩⟩
 case round =>
  obtain ⟨v,i,rfl,rfl,hi,HA⟩:=hrel
  have i0:(0:Int)≤(i:Int):=by omega
  have q1:=HQ1.out wr HA.out.2
  by_cases hlt:i < n
  ·have i1:(i:Int) < (n:Int):=by omega
   obtain ⟨e,he⟩:∃ e,m.paths[i]? = some e:=⟨_,List.getElem?_eq_getElem (by rw [←HN.out];exact hlt)⟩;obtain ⟨ga,cp2,h1,_,_,p1,p2⟩:=(H.out.call HA.out.2).path he;rw [HPv.out] at h1
   cases h1
   have hLd:=(H.out.call HA.out.2).loadE he HPv.out;have HLe:=hid (HK.out.ll e (List.mem_of_getElem? he)).1;obtain ⟨s,hs⟩:∃ y,y=TP e.1:=⟨_,rfl⟩;rw [←hs] at p1 hLd;have HS:=hid hs;have HE:=hid he
   have HNx:Hid (dropL (m.paths.take (i + 1)) ls=dropL (m.paths.take i) ls ++ (if e.1=ls then [] else [e])):=hid (by
    rw [List.take_add_one,he];unfold dropL;rw [List.filter_append]
    congr 1
    by_cases c1:e.1=ls
    ·rw [if_pos c1];simp [c1]
    ·rw [if_neg c1];simp [c1])
   have HLn:Hid ((dropL (m.paths.take i) ls).length≤2199023255552):=hid (by
    have h1:=List.length_filter_le (fun e:List ByteArray × Int=>decide (e.1≠ls)) (m.paths.take i)
    have h2:(m.paths.take i).length≤i:=by rw [List.length_take];omega
    show (List.filter _ _).length≤_
    have h3:=HN.out;have h4:=HK.out.np
    omega)
   clear he hs p2
   by_cases hst:s=t
   ·have HRn:Hid (dropL (m.paths.take (i + 1)) ls=dropL (m.paths.take i) ls):=hid (by rw [HNx.out,if_pos ((TP_inj HLe.out HL.out).1 (by rw [←HS.out,←HT.out];exact hst)),List.append_nil])
    subst hst
    have z1:(s.toList != s.toList)=false:=by simp
    go_wp2_with fail
    exact ⟨⟨v,i + 1,rfl,by go_num,by omega,hid (by rw [HRn.out];exact HA.out)⟩,by simp [intOf];omega⟩
   ·have HRn:Hid (dropL (m.paths.take (i + 1)) ls=dropL (m.paths.take i) ls ++ [(e.1,e.2)]):=hid (by rw [HNx.out,if_neg (fun e1=>hst (by rw [HS.out,HT.out,e1]))])
    have z1:=ba_ne hst
    have z2:(s.toList != t.toList)=true:=by rw [bne,z1];rfl
    obtain ⟨j,hj⟩:∃ y,y=e.2:=⟨_,rfl⟩;rw [←hj] at hLd;have HJ:=hid hj;clear hj;have HBs:Hid (w.heap.size≤(wr.alloc (.cells #[.string s,.int .i64 j] 76)).heap.size):=hid (by have h1:=HA.out.2.size;have h2:=(Chg.alloc wr (.cells #[.string s,.int .i64 j] 76) No).size;omega)
    have hRo:(wr.alloc (.cells #[.string s,.int .i64 j] 76)).ownsRow w.heap.size 76 2 v (dropL (m.paths.take i) ls).length ((dropL (m.paths.take i) ls).flatMap enC):=row_keep HA.out.1 fun g A hg=>(Chg.alloc wr _ No).keep hg (fun e=>e)
    have hAl:=heap_alloc_new wr (.cells #[.string s,.int .i64 j] 76)
    go_wp2_with (first
     | (refine load_of rfl 76 _ rfl ⟨ga,i * 2,none⟩ rfl _ hLd ?_)
     | (at_builtin;go_must (refine wp_appEt rfl _ _ rfl w.heap.size wr.heap.size 1 v (dropL (m.paths.take i) ls) s e.1 j rfl rfl hRo HS.out hAl HLn.out HBs.out ?_;intro v' wc hIc hcc;have HIc:=hid hIc;have Hcc:=hid hcc;clear hIc hcc))
     | fail)
    refine ⟨⟨v',i + 1,rfl,by go_num,by omega,hid ⟨?_,?_⟩⟩,by simp [intOf];omega⟩
    ·rw [HRn.out,←HJ.out]
     exact HIc.out
    ·exact (HA.out.2.trans (Chg.alloc wr _ No) (fun _ _ e=>e) (fun _ _ e=>e)).trans Hcc.out (fun _ _ e=>e) (fun k hk hv=>by
      rcases HA.out.1.2 with ⟨e1,_⟩ | ⟨g1,c1,c2,e1,hb1,_⟩
      ·rw [e1] at hv;cases hv
      ·rw [e1] at hv
       have:g1=k:=by simpa [Value.ownBlock] using hv
       omega)
  ·have i1 : ¬ (i:Int) < (n:Int):=by omega
   have hin:m.paths.take i=m.paths:=List.take_of_length_le (by rw [←HN.out];omega)
   have HF:Hid (wr.ownsRow B 76 2 v (dropL m.paths ls).length ((dropL m.paths ls).flatMap enC)):=hid (by
    have h1:=HA.out.1;rw [hin] at h1;refine ⟨h1.1,?_⟩
    rcases h1.2 with h2 | ⟨g,cap,cur,e,hg,r⟩
    ·exact .inl h2
    ·exact .inr ⟨g,cap,cur,e,Nat.le_trans HB.out hg,r⟩)
   have q1f:=frozen_of_row (j:=1) _ _ _ _ (H.out.call HA.out.2).me;rw [←HG.out] at q1f;have HC0:=hid HA.out.2;obtain ⟨av,cv,hv⟩:=row_sh HF.out;subst hv;clear HA hin
   go_wp2_with fail
   have hS:=(H.out.call HC0.out).setP HF.out;rw [←HG.out] at hS
   go_end0
   exact ⟨rfl,⟨_,hS⟩,HC0.out.trans Chg.setCell (fun _ _ e=>e.elim) (fun k _ e=>e)⟩
end Go.Proofs.YtmgfilacepnjlaaGreatDoor

namespace Go.Proofs.YtmgfilacepnjlaaGreatDoor
open Go.RowKit Go.PlainAid

def MTy (w:World) (k:Nat):Prop:=∃ (A:Array Value) (T:TypeId),w.heap[k]? = some (.cells A T (0,0))∧(T=31∨T=74∨T=76)
def MCh (B:Nat) (w w':World):Prop:=Chg w w' (fun k=>MTy w k∧B≤k)
theorem MCh.refl (B:Nat) (w:World):MCh B w w:=Chg.refl _ _
theorem MCh.of {B:Nat} {w w':World} (h:Chg w w' No):MCh B w w':=h.mono fun _ _ e=>e.elim
theorem MCh.trans {B:Nat} {a b c:World} (h:MCh B a b) (k:MCh B b c):MCh B a c :=
 ⟨k.os.trans h.os,k.tape.trans h.tape,k.output.trans h.output,Nat.le_trans h.size k.size,fun j hj hn=>by
  have e:=h.block j hj hn;rw [←e]
  refine k.block j (Nat.lt_of_lt_of_le hj h.size) fun ⟨⟨A,T,h1,h2⟩,h3⟩=>hn ⟨⟨A,T,by rw [←e];exact h1,h2⟩,h3⟩⟩
theorem MCh.row {B:Nat} {w w':World} {g:Nat} {A:Array Value} {T:TypeId} (hb:B≤g) (hg:w.heap[g]? = some (.cells A T (0,0))) (hT:T=31∨T=74∨T=76) (hc:Chg w w' (· = g)):MCh B w w':=hc.mono fun k _ e=>by
 have e:k=g:=e;rw [e]
 exact ⟨⟨A,T,hg,hT⟩,hb⟩
noncomputable def mvL (ls ts:List ByteArray) (l:List (List ByteArray × Int)) (i:Nat):List (List ByteArray × Int):=(l.take i).map (mvE ls ts) ++ l.drop i
theorem mvL_len (ls ts:List ByteArray) (l:List (List ByteArray × Int)) (i:Nat):(mvL ls ts l i).length=l.length:=by
 unfold mvL;rw [List.length_append,List.length_map,List.length_take,List.length_drop]
 omega
theorem mvL_at {ls ts:List ByteArray} {l:List (List ByteArray × Int)} {i:Nat} {e:List ByteArray × Int} (h:l[i]? = some e):(mvL ls ts l i)[i]? = some e:=by
 have hl:=(List.getElem?_eq_some_iff.1 h).1;unfold mvL;rw [List.getElem?_append_right (by rw [List.length_map,List.length_take];omega),List.length_map,List.length_take,Nat.min_eq_left (by omega),Nat.sub_self,List.getElem?_drop,Nat.add_zero]
 exact h
theorem mvL_next {ls ts:List ByteArray} {l:List (List ByteArray × Int)} {i:Nat} {e:List ByteArray × Int} (h:l[i]? = some e):mvL ls ts l (i + 1)=(mvL ls ts l i).set i (mvE ls ts e):=by
 have hl:=(List.getElem?_eq_some_iff.1 h).1;unfold mvL;rw [List.set_append_right _ _ (by rw [List.length_map,List.length_take];omega),List.length_map,List.length_take,Nat.min_eq_left (by omega),Nat.sub_self,drop_cons h,List.set_cons_zero,List.take_add_one,h]
 simp
theorem mvL_out {ls ts:List ByteArray} {l:List (List ByteArray × Int)} {i:Nat} {e:List ByteArray × Int} (h:l[i]? = some e) (hn : ¬ ls <+: e.1):mvL ls ts l (i + 1)=mvL ls ts l i:=by
 rw [mvL_next h,mvE_out hn];have h1:=mvL_at (ls:=ls) (ts:=ts) h;obtain ⟨h2,h3⟩:=List.getElem?_eq_some_iff.1 h1;rw [←h3]
 exact List.set_getElem_self ..
theorem mvL_end (ls ts:List ByteArray) (l:List (List ByteArray × Int)) {i:Nat} (h:l.length≤i):mvL ls ts l i=l.map (mvE ls ts):=by
 unfold mvL;rw [List.take_of_length_le h,List.drop_of_length_le h,List.append_nil]
theorem pre_iff {ls es:List ByteArray}:ls <+: es↔es=ls∨(ls.length < es.length∧es.take ls.length=ls):=by
 rw [List.prefix_iff_eq_take]
 constructor
 ·intro h
  by_cases c:ls.length < es.length
  ·exact .inr ⟨c,h.symm⟩
  ·left
   rw [h,List.take_of_length_le (by omega)]
 ·rintro (rfl | ⟨_,h⟩)
  ·rw [List.take_length]
  ·exact h.symm
theorem drop_ll {m:Mo} (hk:MoOk m) (ts:List ByteArray):MoOk (dropM m ts):=by
 have h1:(dropL m.paths ts).length≤m.paths.length:=List.length_filter_le ..
 exact ⟨Nat.le_trans h1 hk.np,hk.nt,hk.nx,fun e he=>hk.ll e (List.mem_filter.1 he).1⟩
set_option maxHeartbeats 2000000 in
set_option maxRecDepth 100000 in
theorem mo_moved {B:Nat} {c:MC} {m:Mo} {ls ts:List ByteArray} (w:World) (h:IsMo w B c m) (hk:MoOk m) (hl:LL ls) (hne:ls≠[]) (ht:LL ts) (htn:ts≠[]) (hB:B≤w.heap.size):Calls Tryz.prog 33 #[.pointer (some ⟨c.g,0,none⟩),.string (TP ls),.string (TP ts)] w fun e w'=>e=.returned (.tuple #[])∧(∃ pv,IsMo w' B { c with pv:=pv } (movedM m ls ts))∧MCh B w w':=by
 have hA1:=mo_at w h hk hl;have hA2:=mo_at w h hk ht;have hD:=mo_drop w h hk ht hB;have H:=hid h;have HK:=hid hk;have HL:=hid hl;have HNe:=hid hne;have HTn:=hid htn;obtain ⟨f,hf⟩:∃ y,y=TP ls:=⟨_,rfl⟩;obtain ⟨t,htt⟩:∃ y,y=TP ts:=⟨_,rfl⟩;rw [←hf] at hA1 ⊢;rw [←htt] at hA2 hD ⊢;have HF:=hid hf;have HT:=hid htt;have ftz:f.size≤200∧t.size≤200:=⟨by rw [hf,TP_size hl hne];have:=hl.2;omega,by rw [htt,TP_size ht htn];have:=ht.2;omega⟩;have HFz:=hid ftz;clear h hk hl hne ht htn hB hf htt ftz
 by_cases hat:atL m.paths ls=atL m.paths ts
 ·have HM:Hid (movedM m ls ts=m):=hid (by unfold movedM;rw [if_pos hat])
  rw [←hat] at hA2;clear hat;obtain ⟨ia,hia⟩:∃ y,y=atL m.paths ls:=⟨_,rfl⟩;rw [←hia] at hA1 hA2;have z1:(ia == ia)=true:=beq_self_eq_true _;clear hia hD
  go_enter Tryz.func33,Tryz.ntmps33
  go_wp2_with (first
   | (go_at_call_of 28 (Value.string f);go_must (refine hA1.mono ?_;rintro e w' ⟨rfl,hw⟩;have hw:=hw.symm;subst hw))
   | (go_at_call_of 28 (Value.string t);go_must (refine hA2.mono ?_;rintro e w' ⟨rfl,hw⟩;have hw:=hw.symm;subst hw))
   | fail)
  refine bodyPost_ret (results_none rfl _ _ _) rfl ?_;refine ⟨rfl,⟨c.pv,?_⟩,MCh.refl _ _⟩;rw [HM.out]
  exact H.out
 ·have HM:Hid (movedM m ls ts={ m with paths:=(dropL m.paths ts).map (mvE ls ts) }):=hid (by unfold movedM;rw [if_neg hat])
  obtain ⟨ia,hia⟩:∃ y,y=atL m.paths ls:=⟨_,rfl⟩;obtain ⟨ib,hib⟩:∃ y,y=atL m.paths ts:=⟨_,rfl⟩;rw [←hia] at hA1 hat;rw [←hib] at hA2 hat;have z1:(ia == ib)=false:=beq_eq_false_iff_ne.2 hat;obtain ⟨L,hL⟩:∃ y,y=dropL m.paths ts:=⟨_,rfl⟩;obtain ⟨n,hn⟩:∃ y,y=L.length:=⟨_,rfl⟩;have HL2:=hid hL;have HN:=hid hn;have HKd:=hid (drop_ll HK.out ts)
  have n1:(n:Int)≤2199023255552:=by
   have h1:=HKd.out.np
   have h2:(dropM m ts).paths.length=n:=by rw [hn,hL];rfl
   omega
  obtain ⟨g,hg⟩:∃ y,y=c.g:=⟨_,rfl⟩;have HG:=hid hg;rw [←hg] at hA1 hA2 hD ⊢;clear hat hia hib hL hn hg
  go_enter Tryz.func33,Tryz.ntmps33
  go_upto_region 3 with (first
   | (go_at_call_of 28 (Value.string f);go_must (refine hA1.mono ?_;rintro e w' ⟨rfl,hw⟩;have hw:=hw.symm;subst hw))
   | (go_at_call_of 28 (Value.string t);go_must (refine hA2.mono ?_;rintro e w' ⟨rfl,hw⟩;have hw:=hw.symm;subst hw))
   | (go_at_call 32;go_must (refine hD.mono ?_;rintro e w1 ⟨rfl,pv,hI1,hC1⟩;have HI1:=hid hI1;have HC1:=hid hC1;clear hI1 hC1))
   | fail)
  clear hA1 hA2 hD;have HM1:Hid (MCh B w w1):=hid (MCh.row H.out.gB H.out.me (.inl rfl) (by rw [←HG.out];exact HC1.out))
  have H0:Hid (IsMo w1 B { c with pv:=pv } { m with paths:=mvL ls ts L 0 }):=hid (by
   have e:mvL ls ts L 0=dropL m.paths ts:=by rw [HL2.out];rfl
   rw [e,←HG.out]
   exact HI1.out)
  obtain ⟨_,a,cp,hpv⟩:=H0.out.shape
  have HPv:Hid (pv=.slice a n cp):=hid (by
   have h1:pv=.slice a (mvL ls ts L 0).length cp:=hpv
   rw [h1,mvL_len,←HN.out])
  clear hpv
  go_loopw [6] (fun x6 wr=>∃ i:Nat,x6=.int .i64 (i:Int)∧i≤n∧Hid (IsMo wr B { c with pv:=pv } { m with paths:=mvL ls ts L i }∧MCh B w wr)) (fun x6 _=>n - (intOf x6).toNat)
  case atStart=>exact ⟨0,rfl,Nat.zero_le _,hid ⟨H0.out,HM1.out⟩⟩
  case round =>
   obtain ⟨i,rfl,hi,HA⟩:=hrel
   have i0:(0:Int)≤(i:Int):=by omega
   obtain ⟨_,q1,_⟩:=HA.out.1.cells
   have q1:wr.cell? ⟨g,1,none⟩=some (.slice a n cp):=by
    rw [←HPv.out,HG.out]
    exact q1
   by_cases hlt:i < n
   ·have i1:(i:Int) < (n:Int):=by omega
    obtain ⟨e,he⟩:∃ e,L[i]? = some e:=⟨_,List.getElem?_eq_getElem (by rw [←HN.out];exact hlt)⟩;have he2:(mvL ls ts L i)[i]? = some e:=mvL_at he;obtain ⟨ga,cp2,h1,hga,hrow,p1,_⟩:=HA.out.1.path he2;have HGa:=hid hga;clear hga;have h1:pv=.slice (some ⟨ga,0,none⟩) (mvL ls ts L i).length cp2:=h1;have hp0:=HPv.out;rw [h1,mvL_len,←HN.out] at hp0
    cases hp0
    obtain ⟨A,hA⟩:=hrow;have HRow:Hid (wr.heap[ga]? = some (.cells A 76 (0,0))):=hid hA;have HH1:=hid h1;obtain ⟨hLe,hNe2⟩:=HKd.out.ll e (by show e∈dropL m.paths ts;rw [←HL2.out];exact List.mem_of_getElem? he);have HLe:=hid hLe;have HNe2:=hid hNe2;obtain ⟨p,q,u1,u2,u3,u4,u5,u6⟩:=TP_under HL.out hLe HNe.out hNe2;rw [←HF.out] at u2 u5;obtain ⟨s,hs⟩:∃ y,y=TP e.1:=⟨_,rfl⟩;rw [←hs] at p1 u1 u5 u6;have HS:=hid hs;have HE:=hid he;have HE2:=hid he2;have hb:=get_bt s
    have p3:(p:Int)≤200:=by omega
    have p4:(q:Int)≤200:=by omega
    have HU5:=hid u5;have HU2:=hid u2;have HU1:=hid u1;have q2:wr.frozen? ⟨ga,i * 2,none⟩=false:=frozen_of_row _ _ _ _ _ hA;clear he hs u5 hLe hNe2 he2 h1 hA
    by_cases hsf:s=f
    ·have HEq:Hid (e.1=ls):=hid ((TP_inj HLe.out HL.out).1 (by rw [←HS.out,←HF.out];exact hsf))
     have HNx:Hid (mvL ls ts L (i + 1)=(mvL ls ts L i).set i (ts,e.2)):=hid (by
      rw [mvL_next HE.out,mvE_in (by rw [HEq.out];exact List.prefix_refl _),HEq.out,List.drop_length,List.append_nil])
     subst hsf;have z2:(s.toList == s.toList)=true:=beq_self_eq_true _;clear u6 hb u1 u2
     go_wp2_with fail
     refine ⟨⟨i + 1,by go_num,by omega,hid ⟨?_,?_⟩⟩,by simp [intOf];omega⟩
     ·have hS:=HA.out.1.setE (j:=i) (e:=e) (ls:=ts) HE2.out HH1.out HRow.out
      rw [HNx.out,HT.out]
      exact hS
     ·exact HA.out.2.trans (MCh.row HGa.out HRow.out (.inr (.inr rfl)) Chg.setCell)
    ·have z2:=ba_ne hsf
     by_cases hqp:q < p
     ·have v1:(q:Int) < (p:Int):=by omega
      have v2:=u6 hqp
      by_cases hx:s.extract 0 q=f
      ·have HPr:Hid (ls <+: e.1):=hid (pre_iff.2 (.inr (HU5.out.2 ⟨hqp,hx⟩)))
       have HNx:Hid (mvL ls ts L (i + 1)=(mvL ls ts L i).set i (ts ++ e.1.drop ls.length,e.2)):=hid (by rw [mvL_next HE.out,mvE_in HPr.out])
       have HTx:Hid (t ++ s.extract q p=TP (ts ++ e.1.drop ls.length)):=hid (by
        have hdn:e.1.drop ls.length≠[]:=fun c0=>by
         have h1:=(HU5.out.2 ⟨hqp,hx⟩).1;have h2:=congrArg List.length c0;rw [List.length_drop,List.length_nil] at h2
         omega
        rw [TP_join HTn.out hdn,←HT.out]
        congr 1
        refine ba_ext ?_
        have hq2:q=2 * ls.length:=by rw [←HU2.out,HF.out,TP_size HL.out HNe.out]
        rw [←HU1.out,ext_drop,hq2,HS.out,TP_cD HNe2.out,cD_drop HLe.out.1 (by have:=(HU5.out.2 ⟨hqp,hx⟩).1;omega),TP_cD hdn])
       have z3:((s.extract 0 q).toList == f.toList)=true:=by rw [hx];exact beq_self_eq_true _
       have z4:(bt s q == 47)=true:=by rw [v2];rfl
       clear u6 hx
       go_upto_region 9 with fail
       have hdn:Chg wr wr.drew No:=(Chg.refl _ _).drew;have HCd:=hid hdn;have hd:Chg wr wr.drew (· = ga):=(Chg.refl _ _).drew
       have K1:Hid (∀ W,Chg wr W (· = ga)→W.cell? ⟨g,1,none⟩=some (.slice (some ⟨ga,0,none⟩) n cp)):=hid (fun W hW=>by
        have hme:=HA.out.1.me
        have:=hW.keep hme (fun e1=>by
         have e1:c.g=ga:=e1;rw [e1,HRow.out] at hme
         injection hme with h1
         injection h1 with h2 h3
         exact absurd h3 (by decide))
        rw [HG.out,cell_of_row _ _ _ _ _ _ this]
        show some pv=_
        exact congrArg some HPv.out)
       have hRowD:=hdn.keep HRow.out (fun e=>e)
       have q3:wr.drew.cell? ⟨ga,i * 2,none⟩=some (.string s):=by
        rw [cell_of_row _ _ _ _ _ _ hRowD,←cell_of_row _ _ _ _ _ _ HRow.out]
        exact p1
       have q4:wr.drew.frozen? ⟨ga,i * 2,none⟩=false:=frozen_of_row _ _ _ _ _ hRowD;refine wp_region_noPanic ?_;refine wp_region_held_drew (S:=fun W=>Chg wr W (· = ga)) (by kernel_rfl) hd (fun hH => ?_);refine tV 0 66 (.pointer (some ⟨g,0,none⟩)) rfl (by kernel_rfl) rfl (by rfl) hH (fun _ hw'=>rfl) ?_;simp only [sS];refine tV 1 67 (.pointer (some ⟨g,0,none⟩)) rfl (by kernel_rfl) rfl (by rfl) hH (fun _ hw'=>by go_simp) ?_;simp only [sS];refine tV 2 68 (.pointer (some ⟨g,1,none⟩)) rfl (by kernel_rfl) rfl (by rfl) hH (fun _ hw'=>by go_simp) ?_;simp only [sS];refine tV 3 69 (.slice (some ⟨ga,0,none⟩) n cp) rfl (by kernel_rfl) rfl (by rfl) hH (fun _ hw'=>by have hc:=K1.out _ hw';go_simp) ?_;simp only [sS];refine tV 4 70 (.int .i64 (i:Int)) rfl (by kernel_rfl) rfl (by rfl) hH (fun _ hw'=>rfl) ?_;simp only [sS];refine tV 5 71 (.string t) rfl (by kernel_rfl) rfl (by rfl) hH (fun _ hw'=>rfl) ?_;simp only [sS];refine tV 6 72 (.string s) rfl (by kernel_rfl) rfl (by rfl) hH (fun _ hw'=>rfl) ?_;simp only [sS];refine tV 7 73 (.string f) rfl (by kernel_rfl) rfl (by rfl) hH (fun _ hw'=>rfl) ?_;simp only [sS];refine tV 8 74 (.int .i64 (q:Int)) rfl (by kernel_rfl) rfl (by rfl) hH (fun _ hw'=>by go_simp) ?_;simp only [sS];refine tV 9 75 (.string (s.extract q p)) rfl (by kernel_rfl) rfl (by rfl) hH (fun _ hw'=>by go_simp;exact fun h9=>absurd h9 (by omega)) ?_;simp only [sS];refine tV 10 76 (.string (t ++ s.extract q p)) rfl (by kernel_rfl) rfl (by rfl) hH (fun _ hw'=>by have hz9:=HFz.out.2;go_simp;omega) ?_;simp only [sS];refine tV 11 77 (.pointer (some ⟨ga,i * 2,none⟩)) rfl (by kernel_rfl) rfl (by rfl) hH (fun _ hw'=>by go_simp) ?_;simp only [sS];refine tV 12 78 (.pointer (some ⟨ga,i * 2,none⟩)) rfl (by kernel_rfl) rfl (by rfl) hH (fun _ hw'=>by go_simp) ?_;simp only [sS];refine step1 13 (by kernel_rfl) ?_;refine stSet 13 rfl rfl (by rfl) (wr.drew.setCell ⟨ga,i * 2,none⟩ (.string (t ++ s.extract q p))) (by go_simp) ⟨?_,?_⟩
       ·exact hd.trans Chg.setCell (fun _ _ e=>e) (fun _ _ e=>e)
       refine wpAnyH_done (by kernel_rfl) ?_ _;refine NoPanic.normal ?_;clear hH hd
       go_wp2_with fail
       refine ⟨⟨i + 1,by go_num,by omega,hid ⟨?_,?_⟩⟩,by simp [intOf];omega⟩
       ·have hS:=(HA.out.1.call HCd.out).setE (j:=i) (e:=e) (ls:=ts ++ e.1.drop ls.length) HE2.out HH1.out hRowD
        rw [HNx.out,HTx.out]
        exact hS
       ·exact (HA.out.2.trans (MCh.of HCd.out)).trans (MCh.row HGa.out hRowD (.inr (.inr rfl)) Chg.setCell)
      ·have HNp:Hid (mvL ls ts L (i + 1)=mvL ls ts L i):=hid (mvL_out HE.out fun c0=>by
        rcases pre_iff.1 c0 with c1 | c1
        ·exact hsf (by rw [HS.out,HF.out,c1])
        ·exact hx (HU5.out.1 c1).2)
       have z3:=ba_ne hx;clear u6
       go_wp2_with fail
       exact ⟨⟨i + 1,by go_num,by omega,hid (by rw [HNp.out];exact HA.out)⟩,by simp [intOf];omega⟩
     ·have v1 : ¬ (q:Int) < (p:Int):=by omega
      have HNp:Hid (mvL ls ts L (i + 1)=mvL ls ts L i):=hid (mvL_out HE.out fun c0=>by
       rcases pre_iff.1 c0 with c1 | c1
       ·exact hsf (by rw [HS.out,HF.out,c1])
       ·exact hqp (HU5.out.1 c1).1)
      clear u6
      go_wp2_with fail
      exact ⟨⟨i + 1,by go_num,by omega,hid (by rw [HNp.out];exact HA.out)⟩,by simp [intOf];omega⟩
   ·have i1 : ¬ (i:Int) < (n:Int):=by omega
    have HF2:Hid (IsMo wr B { c with pv:=pv } (movedM m ls ts)):=hid (by
     have h1:=HA.out.1;rw [mvL_end ls ts L (by rw [←HN.out];omega),HL2.out] at h1;rw [HM.out]
     exact h1)
    go_wp2_with fail
    go_end0
    exact ⟨rfl,⟨_,by rw [HG.out];exact HF2.out⟩,HA.out.2⟩
end Go.Proofs.YtmgfilacepnjlaaGreatDoor
