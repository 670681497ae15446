/-
 PlainKept's model: is there a directory ahead of a path's last name? does something lie in a directory?
-/
import Derived.Test.YtmgfilacepnjlaaGreatDoorYC
import Derived.PlainAid
namespace Go.Proofs.YtmgfilacepnjlaaGreatDoor
open Go.RowKit Go.PlainAid

theorem thK_or:∀ (l:List Th) (id:Int) (k:Nat),thK l id k = -1∨∃ i t,l[i]? = some t∧thK l id k=((k + i:Nat):Int)
 | [],_,_=>.inl rfl
 | t :: l,id,k=>by
  unfold thK
  by_cases c:t.id=id
  ·rw [if_pos c]
   exact .inr ⟨0,t,rfl,by rw [Nat.add_zero]⟩
  ·rw [if_neg c]
   rcases thK_or l id (k + 1) with h | ⟨i,u,h1,h2⟩
   ·exact .inl h
   ·exact .inr ⟨i + 1,u,h1,by rw [h2];congr 1;omega⟩
theorem thAt_or (m:Mo) (ls:List ByteArray):(thK m.things (atL m.paths ls) 0 = -1∧thAt m ls=none)∨∃ (i:Nat) (t:Th),m.things[i]? = some t∧thK m.things (atL m.paths ls) 0=(i:Int)∧thAt m ls=some t:=by
 unfold thAt
 rcases thK_or m.things (atL m.paths ls) 0 with h | ⟨i,t,h1,h2⟩
 ·left
  rw [h,if_neg (by omega)]
  exact ⟨rfl,rfl⟩
 ·right
  rw [Nat.zero_add] at h2;refine ⟨i,t,h1,h2,?_⟩;rw [h2,if_pos (by omega),Int.toNat_natCast]
  exact h1
theorem bt_at {s:ByteArray} {i:Nat} {b:UInt8} (h:s.data.toList[i]? = some b):bt s i=(b.toNat:Int):=by
 obtain ⟨hl,hb⟩:=List.getElem?_eq_some_iff.1 h
 have hl2:i < s.size:=by
  rw [Array.length_toList] at hl
  exact hl
 unfold bt;rw [dif_pos hl2,←hb]
 rfl
theorem ext_take (s:ByteArray) (n:Nat):(s.extract 0 n).data.toList=s.data.toList.take n:=by
 simp [ByteArray.data_extract,Array.toList_extract]
theorem ext_drop (s:ByteArray) (n:Nat):(s.extract n s.size).data.toList=s.data.toList.drop n:=by
 have e:s.size=s.data.toList.length:=by rw [Array.length_toList];rfl
 simp only [ByteArray.data_extract,Array.toList_extract,List.extract_eq_take_drop]
 rw [List.take_of_length_le (by rw [List.length_drop];omega)]
theorem TP_last {ls:List ByteArray} (h:LL ls) (hn:ls≠[]):∃ k,ls.length=k + 1∧k≤99∧(TP ls).size=2 * k + 2∧bt (TP ls) (2 * k)=47∧bt (TP ls) (2 * k + 1)≠47∧(k≠0→(TP ls).extract 0 (2 * k)=TP ls.dropLast∧ls.dropLast≠[]):=by
 have h1:=List.length_pos_iff.2 hn;have h2:=h.2;refine ⟨ls.length - 1,by omega,by omega,by rw [TP_size h hn];omega,?_,?_,?_⟩
 ·have e:=(cD_even h.1 (k:=ls.length - 1) (by omega)).1
  rw [←TP_cD hn] at e;rw [bt_at e]
  rfl
 ·obtain ⟨b,e,hb⟩:=(cD_even h.1 (k:=ls.length - 1) (by omega)).2
  rw [←TP_cD hn] at e;rw [bt_at e]
  intro c
  refine hb ?_
  have:b.toNat=47:=by omega
  exact UInt8.toNat_inj.1 this
 ·intro hk
  have e:ls.dropLast=ls.take (ls.length - 1):=List.dropLast_eq_take;refine ⟨ba_ext ?_,fun c => ?_⟩
  ·rw [ext_take,TP_head h (by omega) (by omega),e]
  ·have:=congrArg List.length c
   rw [List.length_dropLast,List.length_nil] at this
   omega
set_option maxHeartbeats 4000000 in
set_option maxRecDepth 100000 in
theorem mo_dir {B:Nat} {c:MC} {m:Mo} {ls:List ByteArray} (w:World) (h:IsMo w B c m) (hk:MoOk m) (hl:LL ls) (hn:ls≠[]):Calls Tryz.prog 30 #[.pointer (some ⟨c.g,0,none⟩),.string (TP ls)] w fun e w'=>e=.returned (.bool (dirM m ls))∧w'=w:=by
 obtain ⟨k,k1,k2,k3,k4,k5,k6⟩:=TP_last hl hn;obtain ⟨R,hR⟩:∃ y,y=dirM m ls:=⟨_,rfl⟩;rw [←hR]
 have HR:Hid (R=if k=0 then true else dirT (thAt m ls.dropLast)):=hid (by
  rw [hR];unfold dirM
  by_cases c:k=0
  ·rw [if_pos c,if_pos (by omega)]
  ·rw [if_neg c,if_neg (by omega)])
 have hA:=mo_at w h hk hl.init;have hT:=mo_thing (id:=atL m.paths ls.dropLast) w h hk;obtain ⟨q1,_,_⟩:=h.cells;obtain ⟨⟨a,cp,hpv⟩,_⟩:=h.shape;rw [hpv] at q1;obtain ⟨t,ht⟩:∃ y,y=TP ls:=⟨_,rfl⟩;rw [←ht] at k3 k4 k5 k6 ⊢;obtain ⟨z,hz⟩:∃ z,z=2 * k:=⟨_,rfl⟩;rw [←hz] at k3 k4 k5 k6
 have zb:(z:Int)≤198:=by omega
 have HZ:=hid hz;have hb:=get_bt t;have H:=hid h;have HPv:=hid hpv;have K6:=hid k6;obtain ⟨id,hid1⟩:∃ y,y=atL m.paths ls.dropLast:=⟨_,rfl⟩;rw [←hid1] at hA hT;obtain ⟨ix,hix⟩:∃ y,y=thK m.things id 0:=⟨_,rfl⟩;rw [←hix] at hT;have HIx:Hid (ix=thK m.things (atL m.paths ls.dropLast) 0):=hid (by rw [hix,hid1]);obtain ⟨p,hp⟩:∃ y,y=TP ls.dropLast:=⟨_,rfl⟩;rw [←hp] at hA;have HP:=hid hp;clear hR h hk hl hn ht hz k6 hpv hid1 hix hp k1 k2
 have z1:(bt t z != 47)=false:=by rw [k4];rfl
 have z2:(bt t (z + 1) != 47)=true:=by simp [k5]
 go_enter Tryz.func30,Tryz.ntmps30
 go_upto_region 2 with fail
 go_loopw [5] (fun x5 wr=>∃ j:Nat,x5=.int .i64 (j:Int)∧(j=z + 1∨j=z)∧wr=w) (fun x5 _=>(intOf x5).toNat)
 case atStart=>exact ⟨z + 1,by congr 1;omega,.inl rfl,rfl⟩
 case round =>
  obtain ⟨j,rfl,hj,rfl⟩:=hrel
  rcases hj with rfl | rfl
  ·go_wp2_with fail
   exact ⟨⟨z,rfl,.inr rfl,trivial⟩,by simp [intOf]⟩
  ·by_cases k0:k=0
   ·have z3:(j:Int)=0:=by have:=HZ.out;omega
    have z4:((j:Int) == 0)=true:=beq_iff_eq.2 z3;have HRt:Hid (R=true):=hid (by rw [HR.out,if_pos k0]);clear z3
    go_wp2_with fail
    go_ret
    exact ⟨by rw [HRt.out];rfl,rfl⟩
   ·have z3 : ¬ (j:Int)=0:=by have:=HZ.out;omega
    have z4:((j:Int) == 0)=false:=beq_eq_false_iff_ne.2 z3;have HRf:Hid (R=dirT (thAt m ls.dropLast)):=hid (by rw [HR.out,if_neg k0])
    have hp2:p=t.extract 0 j:=by rw [HP.out,(K6.out k0).1]
    rw [hp2] at hA;clear hp2
    go_upto_region 7 with (first
     | (go_at_call 28;go_must (refine hA.mono ?_;rintro e w' ⟨rfl,rfl⟩))
     | (go_at_call 29;go_must (refine hT.mono ?_;rintro e w' ⟨rfl,rfl⟩))
     | fail)
    rcases thAt_or m ls.dropLast with ⟨e1,e2⟩ | ⟨i,u,e0,e1,e2⟩
    ·have hi:ix = -1:=by rw [HIx.out,e1]
     have HRn:Hid (R=false):=hid (by rw [HRf.out,e2];rfl);subst hi;clear e1 e2
     go_wp2_with fail
     go_ret
     exact ⟨by rw [HRn.out];rfl,rfl⟩
    ·have hi:ix=(i:Int):=by rw [HIx.out,e1]
     have HRn:Hid (R=u.dir):=hid (by rw [HRf.out,e2];rfl);obtain ⟨ga,cp2,bb,h1,_,_,_,_,_,p1,_⟩:=H.out.thing e0;rw [HPv.out] at h1
     cases h1
     have i1:i < m.things.length:=(List.getElem?_eq_some_iff.1 e0).1
     have i2:(i:Int) < (m.things.length:Int):=by omega
     have i0:(0:Int)≤(i:Int):=by omega
     subst hi;clear e1 e2 e0
     go_wp2_with fail
     go_ret
     exact ⟨by rw [HRn.out];rfl,rfl⟩
open Classical in
noncomputable def fulL (ls:List ByteArray) (l:List (List ByteArray × Int)):Bool:=l.any fun e=>decide (ls.length < e.1.length∧e.1.take ls.length=ls)
theorem TP_under {ls es:List ByteArray} (hl:LL ls) (he:LL es) (hn:ls≠[]) (hn2:es≠[]):∃ p q,(TP es).size=p∧(TP ls).size=q∧p≤200∧q≤200∧((ls.length < es.length∧es.take ls.length=ls)↔(q < p∧(TP es).extract 0 q=TP ls))∧(q < p→bt (TP es) q=47):=by
 have h1:=TP_size hl hn;have h2:=TP_size he hn2;have l1:=hl.2;have l2:=he.2;refine ⟨2 * es.length,2 * ls.length,h2,h1,by omega,by omega,?_,fun hq => ?_⟩
 ·constructor
  ·rintro ⟨a,b⟩
   refine ⟨by omega,ba_ext ?_⟩;rw [ext_take]
   exact (TP_below hl he hn a).1.2 b
  ·rintro ⟨a,b⟩
   have a':ls.length < es.length:=by omega
   refine ⟨a',(TP_below hl he hn a').1.1 ?_⟩;rw [←ext_take,b]
 ·rw [bt_at (TP_below hl he hn (by omega)).2]
  rfl
set_option maxHeartbeats 4000000 in
set_option maxRecDepth 100000 in
theorem mo_full {B:Nat} {c:MC} {m:Mo} {ls:List ByteArray} (w:World) (h:IsMo w B c m) (hk:MoOk m) (hl:LL ls) (hne:ls≠[]):Calls Tryz.prog 31 #[.pointer (some ⟨c.g,0,none⟩),.string (TP ls)] w fun e w'=>e=.returned (.bool (fullM m ls))∧w'=w:=by
 obtain ⟨R,hR⟩:∃ y,y=fullM m ls:=⟨_,rfl⟩;rw [←hR];obtain ⟨n,hn⟩:∃ y,y=m.paths.length:=⟨_,rfl⟩;obtain ⟨_,a,cp,hpv⟩:=h.shape;obtain ⟨_,q1,_⟩:=h.cells;rw [hpv,←hn] at q1;obtain ⟨t,ht⟩:∃ y,y=TP ls:=⟨_,rfl⟩;rw [←ht]
 have n1:(n:Int)≤2199023255552:=by have:=hk.np;omega
 have HR:=hid hR;have HN:=hid hn;have HT:=hid ht;have H:=hid h;have HK:=hid hk;have HL:=hid hl;have HNe:=hid hne;have HPv:=hid hpv;obtain ⟨g,hg⟩:∃ y,y=c.g:=⟨_,rfl⟩;rw [←hg] at q1 ⊢;clear hR hn ht h hk hl hne hpv hg
 go_enter Tryz.func31,Tryz.ntmps31
 go_upto_region 2 with fail
 go_loopw [5] (fun x5 wr=>∃ i:Nat,x5=.int .i64 (i:Int)∧i≤n∧wr=w∧Hid (fulL ls (m.paths.drop i)=R)) (fun x5 _=>n - (intOf x5).toNat)
 case atStart=>exact ⟨0,rfl,Nat.zero_le _,rfl,hid (by rw [List.drop_zero];exact HR.out.symm)⟩
 case round =>
  obtain ⟨i,rfl,hi,rfl,HA⟩:=hrel
  have i0:(0:Int)≤(i:Int):=by omega
  by_cases hlt:i < n
  ·have i1:(i:Int) < (n:Int):=by omega
   obtain ⟨e,he⟩:∃ e,m.paths[i]? = some e:=⟨_,List.getElem?_eq_getElem (by rw [←HN.out];exact hlt)⟩;obtain ⟨ga,cp2,h1,_,_,p1,p2⟩:=H.out.path he;rw [HPv.out] at h1
   cases h1
   obtain ⟨hLe,hNe2⟩:=HK.out.ll e (List.mem_of_getElem? he);obtain ⟨p,q,u1,u2,u3,u4,u5,u6⟩:=TP_under HL.out hLe HNe.out hNe2;rw [←HT.out] at u2 u5;obtain ⟨s,hs⟩:∃ y,y=TP e.1:=⟨_,rfl⟩;rw [←hs] at p1 u1 u5 u6
   have HAt:Hid (R=if q < p∧s.extract 0 q=t then true else fulL ls (m.paths.drop (i + 1))):=hid (by
    rw [←HA.out,drop_cons he];unfold fulL;rw [List.any_cons]
    by_cases c1:q < p∧s.extract 0 q=t
    ·rw [if_pos c1,decide_eq_true (u5.2 c1),Bool.true_or]
    ·rw [if_neg c1,decide_eq_false (fun x=>c1 (u5.1 x)),Bool.false_or])
   have hb:=get_bt s
   have p3:(p:Int)≤200:=by omega
   have p4:(q:Int)≤200:=by omega
   clear he hs u5 p2 hLe hNe2
   by_cases hqp:q < p
   ·have v1:(q:Int) < (p:Int):=by omega
    have v2:=u6 hqp
    by_cases hx:s.extract 0 q=t
    ·have HRn:Hid (R=true):=hid (by rw [HAt.out,if_pos ⟨hqp,hx⟩])
     have z1:((s.extract 0 q).toList == t.toList)=true:=by rw [hx];exact beq_self_eq_true _
     have z2:(bt s q == 47)=true:=by rw [v2];rfl
     clear u6 hx
     go_wp2_with fail
     go_ret
     exact ⟨by rw [HRn.out];rfl,rfl⟩
    ·have HRn:Hid (fulL ls (m.paths.drop (i + 1))=R):=hid (by rw [HAt.out,if_neg (fun x=>hx x.2)])
     have z1:=ba_ne hx;clear u6
     go_wp2_with fail
     exact ⟨⟨i + 1,by go_num,by omega,trivial,HRn⟩,by simp [intOf];omega⟩
   ·have v1 : ¬ (q:Int) < (p:Int):=by omega
    have HRn:Hid (fulL ls (m.paths.drop (i + 1))=R):=hid (by rw [HAt.out,if_neg (fun x=>hqp x.1)]);clear u6
    go_wp2_with fail
    exact ⟨⟨i + 1,by go_num,by omega,trivial,HRn⟩,by simp [intOf];omega⟩
  ·have i1 : ¬ (i:Int) < (n:Int):=by omega
   have HRn:Hid (R=false):=hid (by
    rw [←HA.out,List.drop_of_length_le (by rw [←HN.out];omega)]
    rfl)
   go_wp2_with fail
   go_ret
   exact ⟨by rw [HRn.out];rfl,rfl⟩
end Go.Proofs.YtmgfilacepnjlaaGreatDoor
