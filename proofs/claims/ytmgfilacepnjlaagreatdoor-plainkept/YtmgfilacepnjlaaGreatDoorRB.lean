/-
 package plain: an inode has one entry less.
-/
import Derived.Test.YtmgfilacepnjlaaGreatDoorPO
namespace Go.Proofs.YtmgfilacepnjlaaGreatDoor
open Go.RowKit

theorem MapT.del {w:World} {b n:Nat} {f:ByteArray→Option Int} (h:MapT w b f n) {x:ByteArray} (hx:x.size≤1000) (ty:TypeId) (hp:(f x).isSome=true) :
  ∃ w',(Builtin.delete_ #[104,9] ty #[.map (some b),.string x]).run Tryz.prog w=.ok (.tuple #[]) w'∧MapT w' b (fun y=>if y=x then none else f y) (n - 1)∧Chg w w' (· = b)∧w'.heap.size=w.heap.size:=by
 obtain ⟨D,h,hs,hh,ha⟩:=h;obtain ⟨w',hrun,ho,ht⟩:=h.drop keyS Tryz.underlying104 (keyOfS hx) ty;obtain ⟨h1,h2⟩:=turned_chg ht;refine ⟨w',hrun,⟨_,tightT ho,?_,fun y => ?_,fun y c hc z => ?_⟩,h1,h2⟩
 ·have:=Maps.size_del (k:=.string x.data.toList) (h.tidy keyS)
  rw [hh x,hp,if_pos rfl] at this
  omega
 ·by_cases hy:y=x
  ·subst hy
   simp [Maps.has_del_same]
  ·rw [Maps.has_del_other (by simpa using fun e=>hy (by cases y;cases x;congr 1)),hh y]
   simp [hy]
 ·by_cases hy:y=x
  ·subst hy
   simp at hc
  ·rw [Maps.atKey_del_other (by simpa using fun e=>hy (by cases y;cases x;congr 1))]
   simp [hy] at hc
   exact ha y c hc z
section
variable {ops:Array Oper} {rest:List Oper} {o:Oper} {a:Act} {Q:Exit→Act→World→Prop} {w:World}
theorem wp_delT (hg:o.guard=none) (m x:Operand) (hop:o.op=Op.call { callee:=Callee.builtin Builtin.delete,args:=#[m,x],argTypes:=#[104,9] }) (b n:Nat) (f:ByteArray→Option Int) (k:ByteArray) (hm:a.eval m=.map (some b)) (hx:a.eval x=.string k)
  (h:MapT w b f n) (hk:k.size≤1000) (hp:(f k).isSome=true)
  (hK:∀ w',MapT w' b (fun y=>if y=k then none else f y) (n - 1)→Chg w w' (· = b)→w'.heap.size=w.heap.size→wpList Tryz.prog ops Q rest (a.put o.dst (.tuple #[])) w'):wpList Tryz.prog ops Q (o :: rest) a w:=by
 refine wpList_plain hg fun K' hK' => ?_
 obtain ⟨w',hrun,r1,r2,r3⟩:=h.del hk o.type hp;unfold Oper.wp execOp
 simp only [hop,resolve,invoke,builtin,Sem.run_bind,Sem.run_pure,Result.andThen_ok,List.map_toArray,List.map_cons,List.map_nil,hm,hx,hrun]
 exact hK' _ _ (hK w' r1 r2 r3)
end
def leaN (x:Nd) (k:Nat) (s:ByteArray):Nd:={ x with sl:=x.sl.set k 0,nm:=fun y=>if y=s then none else x.nm y,cnt:=x.cnt - 1 }
section
variable {w w':World} {c:NC} {x:Nd}
theorem IsN.leave (h:IsN w c x) {k g cp:Nat} {s:ByteArray} (hv:c.v=.slice (some ⟨g,0,none⟩) x.sl.length cp) (w1:World) (hw1:w1=w.setCell ⟨g,k,none⟩ (.int .i64 0)) (hM:MapT w' c.nb (fun y=>if y=s then none else x.nm y) (x.cnt - 1)) (hc:Chg w1 w' (· = c.nb)) :
  IsN w' c (leaN x k s)∧Chg w w' (BlkN c):=by
 obtain ⟨p1,p2⟩:=h.pNe
 have ho:c.v.ownBlock=some g:=by rw [hv];rfl
 obtain ⟨g1,g2,g3⟩:=h.ownNe ho
 have hc1:Chg w w1 (· = g):=by rw [hw1];exact Chg.setCell
 have hI:IOwn w1 c.B c.v (x.sl.set k 0):=by
  rw [hw1];have:=h.sl;rw [hv] at this ⊢
  exact own_set this k 0
 refine ⟨⟨?_,(h.bl.keep hc1 (fun e=>g2 e.symm)).keep hc (fun e=>h.ne e),?_,hM,by show x.cnt - 1≤5000;have:=h.cn;omega,h.ne,by show (x.sl.set k 0).length≤1068;rw [List.length_set];exact h.len,h.dom⟩,hc1.trans hc (fun j _ e=>.inr (.inr (.inr (e ▸ ho)))) (fun j _ e=>.inr (.inr (.inl e)))⟩
 ·exact hc.keep (hc1.keep h.me (fun e=>g1 e.symm)) (fun e=>p2 e)
 ·refine hI.keep hc (fun j e f => ?_)
  rw [ho] at e;have:=Option.some.inj e
  omega
end

section
variable {ops:Array Oper} {Q:Exit→Act→World→Prop} {S:World→Prop} {fuel:Nat} {listed:Array Bool} {a:Act} {w:World}
theorem stSet (i:Nat) {o:Oper} (hop:ops[i]? = some o) (hd:o.dst=none) (hw:Region.wanted o (yielded ops a.tmps)=true) (w':World) (hrun:(execOp a.eval o).run Tryz.prog w=.ok .skip w')
  (h:S w'∧wpAnyH Tryz.prog .any ops Q S fuel (listed.setIfInBounds i true) a w'):St ops Q S fuel listed a w i:=by
 refine wpOp_step hop (fun K hK => ?_);rw [if_pos hw];unfold Oper.wp;rw [hrun];refine hK _ _ ?_;unfold Act.put;rw [hd]
 exact h
end
set_option maxHeartbeats 1000000 in
set_option maxRecDepth 100000 in
theorem leave_any {c:NC} {x:Nd} (k:Nat) (s:ByteArray) (w:World) (h:IsN w c x) (hs:s.size≤1000) (hk:x.nm s=some (k:Int)) (hk2:k < x.sl.length) :
  Calls Tryz.prog 49 #[.pointer (some ⟨c.p,0,none⟩),.string s] w fun e w'=>e=.returned (.tuple #[])∧IsN w' c (leaN x k s)∧Chg w w' (BlkN c):=by
 have HH:=hid h;obtain ⟨a,cp,hv⟩:=h.sl.shape;obtain ⟨g,ea,cc⟩:=own_cell (show IOwn w c.B (.slice a x.sl.length cp) x.sl by rw [←hv];exact h.sl) hk2;subst ea;have HV:=hid hv;obtain ⟨_,A,hA⟩:=h.sl.blk (k:=g) (by rw [hv];rfl);obtain ⟨L,hL⟩:∃ y,y=x.sl.length:=⟨_,rfl⟩;have HC5:Hid (∀ W:World,W.heap[c.p]? = some (.cells (ndA c x) 106 (0,0))→W.cell? ⟨c.p,5,none⟩=some (.slice (some ⟨g,0,none⟩) L cp)):=hid (fun W hW=>by rw [cell_of_row _ _ _ _ _ _ hW,hL,←hv];rfl);have HC6:Hid (∀ W:World,W.heap[c.p]? = some (.cells (ndA c x) 106 (0,0))→W.cell? ⟨c.p,6,none⟩=some (.map (some c.nb))):=hid (fun W hW=>by rw [cell_of_row _ _ _ _ _ _ hW];rfl);rw [←hL] at hk2
 have f1:(k:Int) < (L:Int):=by omega
 have f0:(0:Int)≤(k:Int):=by omega
 have HK:=hid hk
 have hgd:((x.nm s).getD 0)=(k:Int):=by rw [hk];rfl
 have HGd:=hid hgd;have hg:=HH.out.ownNe (k:=g) (by rw [hv];rfl);have HS:=hid hs;obtain ⟨w0,hw0⟩:∃ y,y=w.drew:=⟨_,rfl⟩
 have hc0:Chg w w0 No:=by rw [hw0];exact (Chg.refl _ _).drew
 obtain ⟨w1,hw1⟩:∃ y,y=w0.setCell ⟨g,k,none⟩ (.int .i64 0):=⟨_,rfl⟩
 have hc1:Chg w0 w1 (· = g):=by rw [hw1];exact Chg.setCell
 have HS1:Hid (w1.heap[c.p]? = some (.cells (ndA c x) 106 (0,0))∧MapT w1 c.nb x.nm x.cnt):=hid ⟨hc1.keep (hc0.keep h.me (fun e=>e)) (fun e=>hg.1 e.symm),(h.nm.keep hc0 (fun e=>e)).keep hc1 (fun e=>hg.2.2 e.symm)⟩;have HCc:Hid (w0.cell? ⟨g,k,none⟩=some (.int .i64 (x.sl.getD k 0))∧w0.frozen? ⟨g,k,none⟩=false):=hid ⟨by have:=cc;unfold World.cell? at this ⊢;rw [hc0.block g (slt hA) (fun e=>e)];exact this,frozen_of_row w0 g k _ _ (hc0.keep hA (fun e=>e))⟩;have HW1:=hid hw1;have HC0:=hid hc0;have HH0:=hid (h.call hc0);have c61:=HC6.out w1 HS1.out.1;clear hk hv hA hL hc1 hg hgd hs cc hc0
 go_enter Tryz.func49,Tryz.ntmps49
 go_upto_region 0 with fail
 refine wp_region_noPanic ?_;refine wp_region_held_drew (S:=fun W=>W.heap[c.p]? = some (.cells (ndA c x) 106 (0,0))∧MapT W c.nb x.nm x.cnt) (by kernel_rfl) ⟨by rw [←hw0];exact HH0.out.me,by rw [←hw0];exact HH0.out.nm⟩ (fun hH => ?_);rw [←hw0] at hH ⊢;clear hw0 hw1;refine tV 0 4 (.pointer (some ⟨c.p,0,none⟩)) rfl (by kernel_rfl) rfl (by rfl) hH (fun W' hw'=>rfl) ?_;simp only [sS];refine tV 1 5 (.pointer (some ⟨c.p,0,none⟩)) rfl (by kernel_rfl) rfl (by rfl) hH (fun W' hw'=>by go_simp) ?_;simp only [sS];refine tV 2 6 (.pointer (some ⟨c.p,5,none⟩)) rfl (by kernel_rfl) rfl (by rfl) hH (fun W' hw'=>by go_simp) ?_;simp only [sS];refine tV 3 7 (.slice (some ⟨g,0,none⟩) L cp) rfl (by kernel_rfl) rfl (by rfl) hH (fun W' hw'=>by have hc:W'.cell? ⟨c.p,5,none⟩=some (.slice (some ⟨g,0,none⟩) L cp):=HC5.out W' hw'.1;go_simp) ?_;simp only [sS];refine tV 4 8 (.pointer (some ⟨c.p,0,none⟩)) rfl (by kernel_rfl) rfl (by rfl) hH (fun W' hw'=>rfl) ?_;simp only [sS];refine tV 5 9 (.pointer (some ⟨c.p,0,none⟩)) rfl (by kernel_rfl) rfl (by rfl) hH (fun W' hw'=>by go_simp) ?_;simp only [sS];refine tV 6 10 (.pointer (some ⟨c.p,6,none⟩)) rfl (by kernel_rfl) rfl (by rfl) hH (fun W' hw'=>by go_simp) ?_;simp only [sS];refine tV 7 11 (.map (some c.nb)) rfl (by kernel_rfl) rfl (by rfl) hH (fun W' hw'=>by have hc:W'.cell? ⟨c.p,6,none⟩=some (.map (some c.nb)):=HC6.out W' hw'.1;go_simp) ?_;simp only [sS];refine tV 8 12 (.string s) rfl (by kernel_rfl) rfl (by rfl) hH (fun W' hw'=>rfl) ?_;simp only [sS];refine tV 9 13 (.int .i64 (k:Int)) rfl (by kernel_rfl) rfl (by rfl) hH (fun W' hw'=>by have hc:=hw'.2.look HS.out;rw [HGd.out] at hc;go_simp) ?_;simp only [sS];refine tV 10 14 (.pointer (some ⟨g,k,none⟩)) rfl (by kernel_rfl) rfl (by rfl) hH (fun W' hw'=>by go_simp) ?_;simp only [sS];refine step1 11 (by kernel_rfl) ?_;refine stSet 11 rfl rfl (by rfl) w1 (by obtain ⟨hc,hf⟩:=HCc.out;rw [HW1.out];go_simp) ⟨HS1.out,?_⟩;refine wpAnyH_done (by kernel_rfl) ?_ _;refine NoPanic.normal ?_;clear hH h
 go_wp2_with (first
  | (refine wp_delT rfl _ _ rfl c.nb x.cnt x.nm s rfl rfl HS1.out.2 HS.out (by rw [HK.out];rfl) ?_;intro w2 hm2 hc2 hz2;have HM2:=hid hm2;have HC2:=hid hc2;clear hm2 hc2 hz2)
  | fail)
 go_end0
 obtain ⟨r1,r2⟩:=HH0.out.leave (by rw [HV.out]) w1 HW1.out HM2.out HC2.out
 exact ⟨rfl,r1,HC0.out.trans r2 (fun _ _ e=>e.elim) (fun _ _ e=>e)⟩
end Go.Proofs.YtmgfilacepnjlaaGreatDoor

namespace Go.Proofs.YtmgfilacepnjlaaGreatDoor
open Go.RowKit

def PC.del (q:PC) (i:Int):PC:={ q with nc:=fun j=>if j=i then none else q.nc j }
def PSt.del (s:PSt) (i:Int):PSt:={ s with nd:=fun j=>if j=i then none else s.nd j }
theorem PC.del_at (q:PC) (i:Int):(q.del i).nc i=none:=if_pos rfl
theorem PC.del_ne (q:PC) {i j:Int} (h:j≠i):(q.del i).nc j=q.nc j:=if_neg h
theorem PSt.del_at (s:PSt) (i:Int):(s.del i).nd i=none:=if_pos rfl
theorem PSt.del_ne (s:PSt) {i j:Int} (h:j≠i):(s.del i).nd j=s.nd j:=if_neg h
theorem PSt.put_del (s:PSt) (i:Int) (x:Nd):(s.put i x).del i=s.del i:=by
 unfold PSt.del PSt.put
 congr 1
 funext j
 by_cases e:j=i
 ·rw [if_pos e,if_pos e]
 ·rw [if_neg e,if_neg e]
  exact if_neg e
section
variable {w w':World} {q:PC} {s:PSt}
theorem IsPl.less (h:IsPl w q s) (i:Int) (hc:Chg w w' (· = q.mb)) (hM:MapV w' q.mb (fun y=>if y=i then none else (q.nc y).map ptrN)):IsPl w' (q.del i) (s.del i):=by
 have back:∀ j d,(q.del i).nc j=some d→j≠i∧q.nc j=some d:=fun j d hd=>by
  by_cases e:j=i
  ·rw [e,PC.del_at] at hd;cases hd
  ·rw [PC.del_ne q e] at hd;exact ⟨e,hd⟩
 refine ⟨hc.keep h.me (fun e=>h.pNe e),hM.cong fun y => ?_,fun j d hd => ?_,fun j hj => ?_,fun j hj => ?_,fun j1 j2 d1 d2 e1 e2 hne=>h.ap j1 j2 d1 d2 (back j1 d1 e1).2 (back j2 d2 e2).2 hne,fun j d hd=>h.mne j d (back j d hd).2,fun j d hd=>h.bs j d (back j d hd).2⟩
 ·by_cases e:y=i
  ·rw [e,PC.del_at,if_pos rfl];rfl
  ·rw [PC.del_ne q e,if_neg e]
 ·obtain ⟨e,hd⟩:=back j d hd
  obtain ⟨y,h1,h2⟩:=h.nd j d hd
  exact ⟨y,by rw [PSt.del_ne s e];exact h1,h2.keep hc (fun k hk=>h.mapNe hd hk)⟩
 ·by_cases e:j=i
  ·rw [e,PSt.del_at]
  ·rw [PC.del_ne q e] at hj
   rw [PSt.del_ne s e]
   exact h.dom j hj
 ·by_cases e:j=i
  ·rw [e,PC.del_at] at hj;exact absurd rfl hj
  ·rw [PC.del_ne q e] at hj
   exact h.rng j hj
theorem IsN.linked {c:NC} {x:Nd} (h:IsN w c x) (n:Int):IsN (w.setCell ⟨c.p,1,none⟩ (.int .i64 n)) c { x with links:=n }∧Chg w (w.setCell ⟨c.p,1,none⟩ (.int .i64 n)) (· = c.p):=by
 obtain ⟨p1,p2⟩:=h.pNe;have hc:Chg w (w.setCell ⟨c.p,1,none⟩ (.int .i64 n)) (· = c.p):=Chg.setCell
 exact ⟨⟨by rw [heap_setCell_same w c.p 1 _ _ _ h.me];rfl,h.bl.keep hc (fun e=>p1 e.symm),h.sl.keep hc (fun k e f=>(h.ownNe e).1 f),h.nm.keep hc (fun e=>p2 e.symm),h.cn,h.ne,h.len,h.dom⟩,hc⟩
end
structure Sub (q q':PC):Prop where
 p:q'.p=q.p
 mb:q'.mb=q.mb
 nc:∀ i c,q'.nc i=some c→q.nc i=some c
theorem Sub.tr {q q1 q2:PC} (h:Sub q q1) (k:Sub q1 q2):Sub q q2:=⟨k.p.trans h.p,k.mb.trans h.mb,fun i c e=>h.nc i c (k.nc i c e)⟩
theorem Sub.put {q:PC} {i:Int} {c:NC} (h:q.nc i=some c):Sub q (q.put i c):=⟨rfl,rfl,fun j d e=>by
 by_cases hj:j=i
 ·rw [hj,PC.put_at] at e;cases e;rw [hj];exact h
 ·rw [PC.put_ne q c hj] at e;exact e⟩
theorem Sub.del (q:PC) (i:Int):Sub q (q.del i):=⟨rfl,rfl,fun j d e=>by
 by_cases hj:j=i
 ·rw [hj,PC.del_at] at e;cases e
 ·rw [PC.del_ne q hj] at e;exact e⟩
def PBlk (q:PC) (j:Nat):Prop:=j=q.p∨j=q.mb∨∃ i c,q.nc i=some c∧BlkN c j
theorem Sub.blk {q q':PC} (h:Sub q q') {j:Nat} (k:PBlk q' j):PBlk q j:=by
 rcases k with e | e | ⟨i,c,e1,e2⟩
 ·exact .inl (e.trans h.p)
 ·exact .inr (.inl (e.trans h.mb))
 ·exact .inr (.inr ⟨i,c,h.nc i c e1,e2⟩)
def loseS (s:PSt) (i:Int) (x:Nd):PSt:=if x.links=1 then s.del i else s.put i { x with links:=x.links - 1 }

set_option maxHeartbeats 2000000 in
set_option maxRecDepth 100000 in
theorem lose_any {q:PC} {s:PSt} {c:NC} {x:Nd} (i:Int) (w:World) (h:IsPl w q s) (hq:q.nc i=some c) (hx:s.nd i=some x) (hl:1≤x.links∧x.links≤1000) :
  Calls Tryz.prog 50 #[.pointer (some ⟨q.p,0,none⟩),.int .i64 i] w fun e w'=>e=.returned (.tuple #[])∧(∃ q',IsPl w' q' (loseS s i x)∧Sub q q')∧Chg w w' (fun j=>j=q.mb∨BlkN c j):=by
 have hI:I64 i:=by have:=h.rng i (by rw [hq];intro e;cases e);exact ⟨by omega,by omega⟩
 obtain ⟨x',hx',hN⟩:=h.nd i c hq;rw [hx] at hx'
 cases hx'
 obtain ⟨w1,hw1⟩:∃ y,y=w.setCell ⟨c.p,1,none⟩ (.int .i64 (x.links - 1)):=⟨_,rfl⟩;obtain ⟨hN1,hc1⟩:=hN.linked (x.links - 1);rw [←hw1] at hN1 hc1
 have hcB:Chg w w1 (BlkN c):=hc1.mono fun j _ e=>.inl e
 have h1:=h.turn hq hN1 rfl rfl rfl rfl (.inl rfl) hcB
 obtain ⟨fm,hfm⟩:∃ y:Int→Option Value,y=fun y=>(q.nc y).map ptrN:=⟨_,rfl⟩
 have HFi:Hid ((match fm i with | some v=>v | none=>.pointer none)=.pointer (some ⟨c.p,0,none⟩)):=hid (by rw [hfm];simp only [hq];rfl);have HM:Hid (MapV w q.mb fm):=hid (by rw [hfm];exact h.mp)
 have hmb : ¬ q.mb=c.p:=fun e=>h.mapNe hq (.inl rfl) e.symm
 have HM1:Hid (MapV w1 q.mb fm):=hid (HM.out.keep hc1 (fun e=>hmb e))
 have HM2:Hid (∀ y,fm y=(((q.put i c).nc y).map ptrN)):=hid (fun y=>by
  rw [hfm]
  show Option.map ptrN (q.nc y)=_
  by_cases e:y=i
  ·rw [e,PC.put_at,hq]
  ·rw [PC.put_ne q c e])
 have c2:=h.c2;have c21:w1.cell? ⟨q.p,2,none⟩=some (.map (some q.mb)):=h1.c2;have l1:=hN.c1;have l2:w1.cell? ⟨c.p,1,none⟩=some (.int .i64 (x.links - 1)):=hN1.c1;have fz:=frozen_of_row w c.p 1 _ _ hN.me;obtain ⟨l,hll⟩:∃ y,y=x.links:=⟨_,rfl⟩;rw [←hll] at l1 l2 hl hw1;have HL:=hid hll;have H1:=hid h1;have HCB:=hid hcB;have HW1:=hid hw1;have HI:=hid hI
 have wl:wrap64 (l - 1)=l - 1:=by unfold wrap64;omega
 clear h hN hN1 hc1 hcB h1 hfm hx hmb hll
 by_cases e:l=1
 ·subst e
  have HE:Hid (loseS s i x=s.del i):=hid (by unfold loseS;rw [if_pos HL.out.symm]);replace l2:w1.cell? ⟨c.p,1,none⟩=some (.int .i64 0):=l2;clear hw1
  go_enter Tryz.func50,Tryz.ntmps50
  go_upto_region 1 with (first
   | (at_lookup;go_must (refine wp_lookVN rfl _ _ rfl q.mb fm i _ HFi.out rfl rfl HM.out HI.out ?_))
   | fail)
  have hw1:w1=w.setCell ⟨c.p,1,none⟩ (.int .i64 0):=HW1.out;rw [←hw1];clear hw1 c2 l1 fz
  go_wp2_with (first
   | (at_lookup;go_must (refine wp_lookVN rfl _ _ rfl q.mb fm i _ HFi.out rfl rfl HM1.out HI.out ?_))
   | (refine wp_delVN rfl _ _ rfl q.mb fm i rfl rfl HM1.out HI.out ?_;intro w2 hm2 hc2 hz2;have HMd:=hid hm2;have HC2:=hid hc2;clear hm2 hc2 hz2)
   | fail)
  go_end0
  refine ⟨rfl,⟨(q.put i c).del i,?_,(Sub.put hq).tr (Sub.del _ _)⟩,HCB.out.trans HC2.out (fun _ _ e=>.inr e) (fun _ _ e=>.inl e)⟩;have:=H1.out.less i HC2.out (HMd.out.cong fun y=>by rw [HM2.out y]);rw [PSt.put_del] at this;rw [HE.out]
  exact this
 ·have hne : ¬ l - 1=0:=by omega
  have hbe:(l - 1 == 0)=false:=beq_eq_false_iff_ne.2 hne;have HE:Hid (loseS s i x=s.put i { x with links:=x.links - 1 }):=hid (by unfold loseS;rw [if_neg (by rw [←HL.out];exact e)])
  go_enter Tryz.func50,Tryz.ntmps50
  go_upto_region 1 with (first
   | (at_lookup;go_must (refine wp_lookVN rfl _ _ rfl q.mb fm i _ HFi.out rfl rfl HM.out HI.out ?_))
   | fail)
  rw [←hw1];clear hw1 c2 l1 fz
  go_wp2_with (first
   | (at_lookup;go_must (refine wp_lookVN rfl _ _ rfl q.mb fm i _ HFi.out rfl rfl HM1.out HI.out ?_))
   | fail)
  go_end0
  exact ⟨rfl,⟨q.put i c,by rw [HE.out];exact H1.out,Sub.put hq⟩,HCB.out.mono fun _ _ e=>.inr e⟩
end Go.Proofs.YtmgfilacepnjlaaGreatDoor
