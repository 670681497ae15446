/-
 package plain: a name enters a directory.
-/
import Derived.Test.YtmgfilacepnjlaaGreatDoorPX
import Derived.Test.YtmgfilacepnjlaaGreatDoorShelfC
import Derived.Shelf.Strconv.Clone
namespace Go.Proofs.YtmgfilacepnjlaaGreatDoor
open Go.RowKit Go.Shelf

set_option maxHeartbeats 400000 in
set_option maxRecDepth 100000 in
theorem sclone_any (s:ByteArray) (w:World) (h:s.size≤1000):Calls Tryz.prog 66 #[.string s] w fun e w'=>e=.returned (.string s)∧Chg w w' No:=by
 have hC:Calls Tryz.prog 77 #[.string s] w fun e w'=>e=.returned (.string s)∧Below w.heap.size w w':=Any.stringslite_Clone laySClone s w (by omega)
 go_enter Tryz.func66,Tryz.ntmps66
 go_wp2_with (first
  | (go_at_call 77;go_must (refine hC.mono ?_;rintro e w1 ⟨rfl,hb⟩))
  | fail)
 go_ret
 exact ⟨rfl,Chg.of_below hb No⟩
def slK (l:List Int) (k:Nat) (i:Int):List Int:=(if k=l.length then l ++ [0] else l).set k i
def entN (x:Nd) (k:Nat) (s:ByteArray) (i:Int):Nd:={ x with sl:=slK x.sl k i,nm:=fun y=>if y=s then some (k:Int) else x.nm y,cnt:=x.cnt + 1 }
section
variable {ops:Array Oper} {rest:List Oper} {o:Oper} {a:Act} {Q:Exit→Act→World→Prop} {w:World}
theorem wp_appI2 (hg:o.guard=none) (s x:Operand) (hop:o.op=.call { callee:=.builtin .append,args:=#[s,x],argTypes:=#[60,60] }) (B g c:Nat) (v:Value) (l:List Int) (y:Int) (hs:a.eval s=v) (hx:a.eval x=.slice (some ⟨g,0,none⟩) 1 c)
  (hown:IOwn w B v l) (hat:w.cell? ⟨g,0,none⟩=some (.int .i64 y)) (hl:l.length≤1000000000000) (hB:B≤w.heap.size)
  (hK:∀ v' w',IOwn w' B v' (l ++ [y])→Chg w w' (fun k=>v.ownBlock=some k)→(v'.ownBlock=v.ownBlock∨v'.ownBlock=some w.heap.size)→wpList Tryz.prog ops Q rest (a.put o.dst v') w'):wpList Tryz.prog ops Q (o :: rest) a w:=by
 obtain ⟨i,hi,hz,hsz,hby⟩:=infoI;refine wpList_append_own_at w hg s x 60 hop B 3 i _ 1 8 Tryz.underlying60 hi hz hsz hby rfl (by decide) v l.length (l.map (Value.int .i64)) hs hown ⟨g,0,none⟩ 1 c [.int .i64 y] hx rfl (fun j u hj => ?_) (by simp [Value.oneCell']) (by unfold maxLen;omega) (by omega) hB ?_
 ·cases j with
  | zero=>simp at hj;subst hj;exact hat
  | succ j=>simp at hj
 ·intro v' w' h1 h2 h3 h4
  refine hK v' w' ?_ ((Chg.grown h2).mono fun j _ e=>e.symm) h4;unfold IOwn;rw [List.length_append,List.map_append]
  exact h1
end
theorem own_set {w:World} {B g n cp:Nat} {l:List Int} (h:IOwn w B (.slice (some ⟨g,0,none⟩) n cp) l) (k:Nat) (y:Int):IOwn (w.setCell ⟨g,k,none⟩ (.int .i64 y)) B (.slice (some ⟨g,0,none⟩) n cp) (l.set k y):=by
 rcases h.2 with ⟨e,_⟩ | ⟨g',cap,cur,e,hb,hg,h1,h2,h3,h4⟩
 ·cases e
 ·injection e with e1 e2 e3
  cases e1
  subst e3;refine ⟨by simp,.inr ⟨g,cp,cur.setIfInBounds k (.int .i64 y),?_,hb,heap_setCell_same w g k cur _ _ hg,by rw [List.length_set];exact h1,h2,by rw [Array.size_setIfInBounds];exact h3,?_⟩⟩
  ·rw [e2,List.length_set]
  ·rw [Array.toList_setIfInBounds,List.length_set,List.take_set,h4,List.map_set]
section
variable {w w':World} {c:NC} {x:Nd} {v':Value}
theorem IsN.ownNe (h:IsN w c x) {k:Nat} (e:c.v.ownBlock=some k):k≠c.p∧k≠c.bb∧k≠c.nb:=by
 obtain ⟨_,A,hA⟩:=h.sl.blk e;obtain ⟨e1,k1,m1⟩:=h.bl.isMap;obtain ⟨e2,k2,m2⟩:=h.nm.isMap
 exact ⟨obj_ne hA h.me (by intro e;cases e),obj_ne hA m1 (by intro e;cases e),obj_ne hA m2 (by intro e;cases e)⟩
theorem IsN.pNe (h:IsN w c x):c.p≠c.bb∧c.p≠c.nb:=by
 obtain ⟨e1,k1,m1⟩:=h.bl.isMap;obtain ⟨e2,k2,m2⟩:=h.nm.isMap
 exact ⟨obj_ne h.me m1 (by intro e;cases e),obj_ne h.me m2 (by intro e;cases e)⟩
theorem IsN.grow (h:IsN w c x) (hl:x.sl.length < 1068) (hi:IOwn w' c.B v' (x.sl ++ [0])) (hc:Chg w w' (fun j=>c.v.ownBlock=some j)) (hn:v'.ownBlock=c.v.ownBlock∨∃ b,v'.ownBlock=some b∧w.heap.size≤b) :
  IsN (w'.setCell ⟨c.p,5,none⟩ v') { c with v:=v' } { x with sl:=x.sl ++ [0] }∧Chg w (w'.setCell ⟨c.p,5,none⟩ v') (BlkN c)∧w'.cell? ⟨c.p,5,none⟩=some c.v∧w'.frozen? ⟨c.p,5,none⟩=false:=by
 obtain ⟨p1,p2⟩:=h.pNe
 have hp : ¬ c.v.ownBlock=some c.p:=fun e=>(h.ownNe e).1 rfl
 have h2:Chg w' (w'.setCell ⟨c.p,5,none⟩ v') (· = c.p):=Chg.setCell;have hme:=hc.keep h.me hp;refine ⟨⟨heap_setCell_same w' c.p 5 _ _ _ hme,(h.bl.keep hc (fun e=>(h.ownNe e).2.1 rfl)).keep h2 (fun e=>p1 e.symm),hi.keep h2 (fun k e e2 => ?_),(h.nm.keep hc (fun e=>(h.ownNe e).2.2 rfl)).keep h2 (fun e=>p2 e.symm),h.cn,h.ne,by simp;omega,h.dom⟩,hc.trans h2 (fun _ _ e=>.inr (.inr (.inr e))) (fun _ _ e=>.inl e),(cell_of_row _ _ _ _ _ _ hme).trans rfl,frozen_of_row w' c.p 5 _ 106 hme⟩;subst e2;have hs:=slt h.me
 rcases hn with e3 | ⟨b,e3,hb⟩
 ·have e:v'.ownBlock=some c.p:=e
  rw [e3] at e;exact hp e
 ·have e:v'.ownBlock=some c.p:=e
  rw [e3] at e;have:=Option.some.inj e
  omega
theorem IsN.slot (h:IsN w c x) {g n cp k:Nat} (hv:c.v=.slice (some ⟨g,0,none⟩) n cp) (i:Int):IsN (w.setCell ⟨g,k,none⟩ (.int .i64 i)) c { x with sl:=x.sl.set k i }∧Chg w (w.setCell ⟨g,k,none⟩ (.int .i64 i)) (BlkN c):=by
 have ho:c.v.ownBlock=some g:=by rw [hv];rfl
 obtain ⟨n1,n2,n3⟩:=h.ownNe ho;have h2:Chg w (w.setCell ⟨g,k,none⟩ (.int .i64 i)) (· = g):=Chg.setCell;have hsl:=h.sl;rw [hv] at hsl;refine ⟨⟨h2.keep h.me (fun e=>n1 e.symm),h.bl.keep h2 (fun e=>n2 e.symm),?_,h.nm.keep h2 (fun e=>n3 e.symm),h.cn,h.ne,by simp;exact h.len,h.dom⟩,h2.mono fun j _ e=>.inr (.inr (.inr (by rw [ho,e])))⟩;rw [hv]
 exact own_set hsl k i
theorem IsN.named (h:IsN w c x) {f:ByteArray→Option Int} (hm:MapT w' c.nb f (x.cnt + 1)) (hc:Chg w w' (· = c.nb)) (hn:x.cnt < 5000):IsN w' c { x with nm:=f,cnt:=x.cnt + 1 }:=by
 obtain ⟨p1,p2⟩:=h.pNe
 exact ⟨hc.keep h.me p2,h.bl.keep hc h.ne,h.sl.keep hc (fun k e e2=>(h.ownNe e).2.2 e2),hm,hn,h.ne,h.len,h.dom⟩
end
section
variable {ops:Array Oper} {Q:Exit→Act→World→Prop} {S:World→Prop} {fuel:Nat} {listed:Array Bool} {a:Act} {w:World}
theorem stPutT (i:Nat) (m x v:Operand) (b n:Nat) (f:ByteArray→Option Int) (k:ByteArray) (d:Int) {o:Oper} (hop:ops[i]? = some o) (hd:o.dst=none) (hw:Region.wanted o (yielded ops a.tmps)=true) (ho:o.op=Op.mapUpdate 104 m x v)
  (hm:a.eval m=.map (some b)) (hx:a.eval x=.string k) (hv:a.eval v=.int .i64 d) (h:MapT w b f n) (hk:k.size≤1000) (hn:n≤100000)
  (hK:∀ w',MapT w' b (fun y=>if y=k then some d else f y) (n + 1)→Chg w w' (· = b)→w'.heap.size=w.heap.size→S w'∧wpAnyH Tryz.prog .any ops Q S fuel (listed.setIfInBounds i true) a w'):St ops Q S fuel listed a w i:=by
 obtain ⟨w',hrun,r1,r2,r3⟩:=h.store hk d hn;have hh:=hK w' r1 r2 r3;refine wpOp_step hop (fun K hK => ?_);rw [if_pos hw];unfold Oper.wp
 simp [execOp,ho,hm,hx,hv,hrun,Result.andThen]
 refine hK _ _ ⟨hh.1,?_⟩;unfold Act.put;rw [hd]
 exact hh.2
end

set_option maxHeartbeats 1000000 in
set_option maxRecDepth 100000 in
theorem enter_any {c:NC} {x:Nd} (k:Nat) (s:ByteArray) (i:Int) (w:World) (h:IsN w c x) (hk:k≤x.sl.length) (hk2:k < 1068) (hcn:x.cnt < 5000) (hs:s.size≤1000) (hB:c.B≤w.heap.size) :
  Calls Tryz.prog 46 #[.pointer (some ⟨c.p,0,none⟩),.int .i64 (k:Int),.string s,.int .i64 i] w fun e w'=>e=.returned (.tuple #[])∧(∃ v',IsN w' { c with v:=v' } (entN x k s i)∧(v'.ownBlock=c.v.ownBlock∨∃ b,v'.ownBlock=some b∧w.heap.size≤b))∧Chg w w' (BlkN c):=by
 have c5:=h.c5;obtain ⟨a,cp,hv⟩:=h.sl.shape;rw [hv] at c5;have HH:=hid h;have HV:=hid hv;obtain ⟨n,hn⟩:∃ y,y=x.sl.length:=⟨_,rfl⟩;have HN:=hid hn;rw [←hn] at c5 hk
 have k0:(0:Int)≤(k:Int):=by omega
 have kb:(k:Int)≤1068:=by omega
 clear h hv hn
 by_cases he:k=n
 ·subst he
  have hlen:x.sl.length < 1068:=by rw [←HN.out];exact hk2
  obtain ⟨wA,hwA⟩:∃ y,y=w.alloc (.cells #[.int .i64 0] 3):=⟨_,rfl⟩
  have hAc:Chg w wA No:=by rw [hwA];exact Chg.alloc w _ No
  have HHA:=hid (HH.out.call hAc)
  have e2:wA.cell? ⟨w.heap.size,0,none⟩=some (.int .i64 0):=by rw [hwA];exact (cell_of_row _ _ _ _ _ _ (heap_alloc_new w (.cells #[.int .i64 0] 3))).trans rfl
  have c5a:=HHA.out.c5;rw [HV.out,←HN.out] at c5a;have HRo:Hid (IOwn wA c.B (.slice a k cp) x.sl):=hid (by rw [HN.out,←HV.out];exact HHA.out.sl);have HLn:Hid (x.sl.length≤1000000000000):=hid (by omega);have HBs:Hid (c.B≤wA.heap.size):=hid (by have:=hAc.size;omega)
  have HSt:Hid (∀ v' w',IOwn w' c.B v' (x.sl ++ [0])→Chg wA w' (fun j=>(Value.slice a k cp).ownBlock=some j)→(v'.ownBlock=(Value.slice a k cp).ownBlock∨v'.ownBlock=some wA.heap.size)→(IsN (w'.setCell ⟨c.p,5,none⟩ v') { c with v:=v' } { x with sl:=x.sl ++ [0] }∧Chg w (w'.setCell ⟨c.p,5,none⟩ v') (BlkN c)∧w'.cell? ⟨c.p,5,none⟩=some (.slice a k cp)∧w'.frozen? ⟨c.p,5,none⟩=false)∧(v'.ownBlock=c.v.ownBlock∨∃ b,v'.ownBlock=some b∧w.heap.size≤b)):=hid (fun v' w' h1 h2 h3=>by
   have e:Value.slice a k cp=c.v:=by rw [HV.out,←HN.out]
   rw [e] at h2 h3 ⊢;have h4:v'.ownBlock=c.v.ownBlock∨∃ b,v'.ownBlock=some b∧wA.heap.size≤b:=h3.imp id (fun q=>⟨_,q,Nat.le_refl _⟩);obtain ⟨g1,g2,g3,g4⟩:=HHA.out.grow hlen h1 h2 h4
   exact ⟨⟨g1,hAc.trans g2 (fun _ _ e=>e.elim) (fun _ _ e=>e),g3,g4⟩,h4.imp id (fun ⟨b,q1,q2⟩=>⟨b,q1,by have:=hAc.size;omega⟩)⟩)
  clear hAc HHA HH HV;rw [hwA] at e2 c5a HRo HBs HSt;clear hwA hlen
  go_enter Tryz.func46,Tryz.ntmps46
  go_upto_region 2 with (first
   | (at_builtin;go_must (refine wp_appI2 rfl _ _ rfl c.B w.heap.size 1 _ _ 0 rfl rfl HRo.out e2 HLn.out HBs.out ?_;intro v' w10 hI10 hc10 hn10;obtain ⟨⟨k10,kc10,q10,f10⟩,o10⟩:=HSt.out v' w10 hI10 hc10 hn10;obtain ⟨na,nc,hv'⟩:=hI10.shape;obtain ⟨nn,hnn⟩:∃ yy:Nat,yy=(x.sl ++ [0]).length:=⟨_,rfl⟩;have HNn:=hid hnn;rw [←hnn] at hv';subst hv';have HF:=hid k10;have HFc:=hid kc10;have HOw:=hid o10;have HI10:=hid hI10;clear k10 kc10 o10 hI10 hc10 hn10 hnn e2 c5 c5a HRo HSt))
   | fail)
  obtain ⟨w11,hw11⟩:∃ y,y=w10.setCell ⟨c.p,5,none⟩ (.slice na nn nc):=⟨_,rfl⟩;rw [←hw11] at HF HFc ⊢
  have hnk:nn=k + 1:=by have:=HNn.out;rw [List.length_append,←HN.out] at this;exact this
  have k1:(k:Int) < (nn:Int):=by omega
  have hkl:k < (x.sl ++ [0]).length:=by rw [←HNn.out];omega
  have c5:=HF.out.c5;have c5:w11.cell? ⟨c.p,5,none⟩=some (.slice na nn nc):=c5;obtain ⟨g,rfl,q1⟩:∃ g,na=some ⟨g,0,none⟩∧w11.cell? ⟨g,k,none⟩=some (.int .i64 ((x.sl ++ [0]).getD k 0)):=own_cell HF.out.sl hkl
  have q2:w11.frozen? ⟨g,k,none⟩=false:=by
   obtain ⟨_,A,hA⟩:=HF.out.sl.blk (k:=g) rfl
   exact frozen_of_row _ _ _ _ _ hA
  obtain ⟨y0,hy0⟩:∃ y,y=(x.sl ++ [0]).getD k 0:=⟨_,rfl⟩;rw [←hy0] at q1;obtain ⟨w1,hw1⟩:∃ y,y=w11.setCell ⟨g,k,none⟩ (.int .i64 i):=⟨_,rfl⟩;have HS:=hid (HF.out.slot (g:=g) (n:=nn) (cp:=nc) (k:=k) rfl i);rw [←hw1] at HS;have HKd:=hid HS.out.1
  have HCd:Hid (Chg w w1 (BlkN c)):=hid (HFc.out.trans HS.out.2 (fun _ _ e=>e) (fun j hj e=>by
   rcases e with e | e | e | e
   ·exact .inl e
   ·exact .inr (.inl e)
   ·exact .inr (.inr (.inl e))
   ·rcases HOw.out with q | ⟨b,q,hb⟩
    ·have e:(Value.slice (some ⟨g,0,none⟩) nn nc).ownBlock=some j:=e
     rw [q] at e
     exact .inr (.inr (.inr e))
    ·have e:(Value.slice (some ⟨g,0,none⟩) nn nc).ownBlock=some j:=e
     rw [q] at e;have:=Option.some.inj e
     omega))
  have HQ6:Hid (∀ W,Chg w1 W (· = c.nb)→W.cell? ⟨c.p,6,none⟩=some (.map (some c.nb))):=hid (fun W hW=>(cell_of_row _ _ _ _ _ _ (hW.keep HKd.out.me HKd.out.pNe.2)).trans rfl)
  have HEnd:Hid (∀ W,IsN W { c with v:=.slice (some ⟨g,0,none⟩) nn nc } { x with sl:=(x.sl ++ [0]).set k i,nm:=fun y=>if y=s then some (k:Int) else x.nm y,cnt:=x.cnt + 1 }→IsN W { c with v:=.slice (some ⟨g,0,none⟩) nn nc } (entN x k s i)):=hid (fun W hW=>by
   unfold entN slK;rw [if_pos HN.out]
   exact hW)
  clear hw11 hnk hkl hy0 HS HF HFc HI10 q10 f10 HNn
  go_upto_region 3 with fail
  rw [←hw1];obtain ⟨wd,hwd⟩:∃ y,y=w1:=⟨_,rfl⟩;rw [←hwd] at HKd HCd HQ6 ⊢;clear hwd hw1 q1 q2 c5;refine wp_region_noPanic ?_;refine wp_region_held_drew (S:=fun w'=>Chg wd w' (· = c.nb)) (by kernel_rfl) (Chg.refl _ _).drew (fun hH => ?_);refine tV 0 31 (.pointer (some ⟨c.p,0,none⟩)) rfl (by kernel_rfl) rfl (by rfl) hH (fun W' hw'=>rfl) ?_;simp only [sS];refine tV 1 32 (.pointer (some ⟨c.p,0,none⟩)) rfl (by kernel_rfl) rfl (by rfl) hH (fun W' hw'=>by go_simp) ?_;simp only [sS];refine tV 2 33 (.pointer (some ⟨c.p,6,none⟩)) rfl (by kernel_rfl) rfl (by rfl) hH (fun W' hw'=>by go_simp) ?_;simp only [sS];refine tV 3 34 (.map (some c.nb)) rfl (by kernel_rfl) rfl (by rfl) hH (fun W' hw'=>by have hc:=HQ6.out W' hw';go_simp) ?_;simp only [sS];refine tV 4 35 (.string s) rfl (by kernel_rfl) rfl (by rfl) hH (fun W' hw'=>rfl) ?_;simp only [sS];refine tV 6 37 (.int .i64 (k:Int)) rfl (by kernel_rfl) rfl (by rfl) hH (fun W' hw'=>rfl) ?_;simp only [sS];refine step1 5 (by kernel_rfl) ?_;refine stCall 5 36 66 #[.string s] _ rfl rfl (by rfl) (by go_simp) (sclone_any s _ hs) ?_
  rintro e w5 ⟨rfl,hc5⟩
  have hn5:Chg wd w5 No:=((Chg.refl wd No).drew).tr hc5
  have hH5:Chg wd w5 (· = c.nb):=hn5.mono fun _ _ e=>e.elim
  refine ⟨_,rfl,hH5,?_⟩;simp only [sS];have HK5:=hid (HKd.out.call hn5);refine step1 7 (by kernel_rfl) ?_;refine stPutT 7 (.tmp 34) (.tmp 36) (.tmp 37) c.nb x.cnt x.nm s (k:Int) rfl rfl (by rfl) rfl rfl rfl rfl HK5.out.nm hs (by have:=HK5.out.cn;show x.cnt≤100000;omega) ?_
  intro w6 hm6 hc6 hz6
  refine ⟨hH5.trans hc6 (fun _ _ e=>e) (fun _ _ e=>e),?_⟩;refine wpAnyH_done (by kernel_rfl) ?_ _;refine NoPanic.normal ?_;have HF:=hid (HK5.out.named hm6 hc6 hcn);have HC6:Hid (Chg w w6 (BlkN c)):=hid ((HCd.out.trans hn5 (fun _ _ e=>e) (fun _ _ e=>e.elim)).trans hc6 (fun _ _ e=>e) (fun _ _ e=>.inr (.inr (.inl e))));clear hH hH5 hn5 hc5 hm6 hc6 hz6 HK5 HKd HCd HQ6
  go_wp2_with fail
  go_end0
  exact ⟨rfl,⟨_,HEnd.out _ HF.out,HOw.out⟩,HC6.out⟩
 ·have b1:((k:Int) == (n:Int))=false:=beq_eq_false_iff_ne.2 (by omega)
  have b2:decide ((k:Int)=(n:Int))=false:=decide_eq_false (by omega);have b3:decide (k=n)=false:=decide_eq_false he
  have hlt:k < n:=by omega
  have k1:(k:Int) < (n:Int):=by omega
  obtain ⟨g,rfl,_⟩:∃ g,a=some ⟨g,0,none⟩∧True:=by
   have hs2:=HH.out.sl;rw [HV.out] at hs2;obtain ⟨g,e,_⟩:=own_cell hs2 (j:=k) (by rw [←HN.out];exact hlt)
   exact ⟨g,e,trivial⟩
  have hcell:w.cell? ⟨g,k,none⟩=some (.int .i64 (x.sl.getD k 0))∧w.frozen? ⟨g,k,none⟩=false:=by
   have hs2:=HH.out.sl;rw [HV.out] at hs2;obtain ⟨g',e,q⟩:=own_cell hs2 (j:=k) (by rw [←HN.out];exact hlt)
   cases e
   obtain ⟨_,A,hA⟩:=hs2.blk (k:=g) rfl
   exact ⟨q,frozen_of_row _ _ _ _ _ hA⟩
  obtain ⟨q1,q2⟩:=hcell;obtain ⟨y0,hy0⟩:∃ y,y=x.sl.getD k 0:=⟨_,rfl⟩;rw [←hy0] at q1;obtain ⟨w1,hw1⟩:∃ y,y=w.setCell ⟨g,k,none⟩ (.int .i64 i):=⟨_,rfl⟩;have HS:=hid (HH.out.slot HV.out i (k:=k));rw [←hw1] at HS;have HKd:=hid HS.out.1;have HCd:=hid HS.out.2;have HQ6:Hid (∀ W,Chg w1 W (· = c.nb)→W.cell? ⟨c.p,6,none⟩=some (.map (some c.nb))):=hid (fun W hW=>(cell_of_row _ _ _ _ _ _ (hW.keep HKd.out.me HKd.out.pNe.2)).trans rfl)
  have HEnd:Hid (∀ W,IsN W c { x with sl:=x.sl.set k i,nm:=fun y=>if y=s then some (k:Int) else x.nm y,cnt:=x.cnt + 1 }→IsN W { c with v:=c.v } (entN x k s i)):=hid (fun W hW=>by
   unfold entN slK;rw [if_neg (by rw [←HN.out];exact he)]
   exact hW)
  clear hy0 HS he HH
  go_enter Tryz.func46,Tryz.ntmps46
  go_upto_region 3 with fail
  rw [←hw1];obtain ⟨wd,hwd⟩:∃ y,y=w1:=⟨_,rfl⟩;rw [←hwd] at HKd HCd HQ6 ⊢;clear hwd hw1 q1 q2 c5 b1 b2 b3;refine wp_region_noPanic ?_;refine wp_region_held_drew (S:=fun w'=>Chg wd w' (· = c.nb)) (by kernel_rfl) (Chg.refl _ _).drew (fun hH => ?_);refine tV 0 31 (.pointer (some ⟨c.p,0,none⟩)) rfl (by kernel_rfl) rfl (by rfl) hH (fun W' hw'=>rfl) ?_;simp only [sS];refine tV 1 32 (.pointer (some ⟨c.p,0,none⟩)) rfl (by kernel_rfl) rfl (by rfl) hH (fun W' hw'=>by go_simp) ?_;simp only [sS];refine tV 2 33 (.pointer (some ⟨c.p,6,none⟩)) rfl (by kernel_rfl) rfl (by rfl) hH (fun W' hw'=>by go_simp) ?_;simp only [sS];refine tV 3 34 (.map (some c.nb)) rfl (by kernel_rfl) rfl (by rfl) hH (fun W' hw'=>by have hc:=HQ6.out W' hw';go_simp) ?_;simp only [sS];refine tV 4 35 (.string s) rfl (by kernel_rfl) rfl (by rfl) hH (fun W' hw'=>rfl) ?_;simp only [sS];refine tV 6 37 (.int .i64 (k:Int)) rfl (by kernel_rfl) rfl (by rfl) hH (fun W' hw'=>rfl) ?_;simp only [sS];refine step1 5 (by kernel_rfl) ?_;refine stCall 5 36 66 #[.string s] _ rfl rfl (by rfl) (by go_simp) (sclone_any s _ hs) ?_
  rintro e w5 ⟨rfl,hc5⟩
  have hn5:Chg wd w5 No:=((Chg.refl wd No).drew).tr hc5
  have hH5:Chg wd w5 (· = c.nb):=hn5.mono fun _ _ e=>e.elim
  refine ⟨_,rfl,hH5,?_⟩;simp only [sS];have HK5:=hid (HKd.out.call hn5);refine step1 7 (by kernel_rfl) ?_;refine stPutT 7 (.tmp 34) (.tmp 36) (.tmp 37) c.nb x.cnt x.nm s (k:Int) rfl rfl (by rfl) rfl rfl rfl rfl HK5.out.nm hs (by have:=HK5.out.cn;show x.cnt≤100000;omega) ?_
  intro w6 hm6 hc6 hz6
  refine ⟨hH5.trans hc6 (fun _ _ e=>e) (fun _ _ e=>e),?_⟩;refine wpAnyH_done (by kernel_rfl) ?_ _;refine NoPanic.normal ?_;have HF:=hid (HK5.out.named hm6 hc6 hcn);have HC6:Hid (Chg w w6 (BlkN c)):=hid ((HCd.out.trans hn5 (fun _ _ e=>e) (fun _ _ e=>e.elim)).trans hc6 (fun _ _ e=>e) (fun _ _ e=>.inr (.inr (.inl e))));clear hH hH5 hn5 hc5 hm6 hc6 hz6 HK5 HKd HCd HQ6
  go_wp2_with fail
  go_end0
  exact ⟨rfl,⟨_,HEnd.out _ HF.out,.inl rfl⟩,HC6.out⟩
end Go.Proofs.YtmgfilacepnjlaaGreatDoor
