/-
 package plain: rename, in one contract.
-/
import Derived.Test.YtmgfilacepnjlaaGreatDoorRX
import Derived.Test.YtmgfilacepnjlaaGreatDoorVB
namespace Go.Proofs.YtmgfilacepnjlaaGreatDoor
open Go.RowKit Go.Sort Go.Lib Go.Maps Go.Shelf

theorem strKeys_ok {w:World} {b n:Nat} {D:DataW Value} (h:w.ownsMap Tryz.prog 9 decV b n D):(strKeys D).Pairwise (· ≠ ·)∧∀ x,x∈strKeys D↔Maps.has D (.string x)=true:=by
 obtain ⟨es,hD,hp,hk⟩:=h.entries keyS
 have hint:∀ p∈es,∃ x,p.1=.string x:=by
  obtain ⟨es',clock,_,F,_,hD'⟩:=h;rw [hD] at hD'
  cases hD'
  intro p hp
  obtain ⟨x,hx,rfl⟩:=List.mem_map.1 (mem_sorted.1 hp);obtain ⟨y,hy⟩:=F.reads x hx;obtain ⟨t,_,hl,_⟩:=WideMaps.string_of_keyOf Tryz.underlying9 (WideElems.rd_key hy);rw [WideElems.rg_of hy]
  exact ⟨_,hl⟩
 rw [hD]
 show (es.map fun p=>strOf p.1).Pairwise (· ≠ ·)∧∀ x,x∈(es.map fun p=>strOf p.1)↔_
 refine ⟨?_,?_⟩
 ·rw [List.pairwise_map]
  refine List.Pairwise.imp_of_mem ?_ hp
  intro p q hp hq hne
  obtain ⟨x,hx⟩:=hint p hp;obtain ⟨y,hy⟩:=hint q hq;rw [hx,hy] at hne;rw [hx,hy]
  simpa [strOf] using hne
 ·intro x
  rw [Maps.has_eq,List.any_eq_true]
  constructor
  ·intro hx
   obtain ⟨p,hp,e⟩:=List.mem_map.1 hx;obtain ⟨y,hy⟩:=hint p hp;rw [hy] at e;have e:y=x:=e;subst e
   exact ⟨p,hp,by rw [hy];exact WideAt.sameKey_self (keyLitS _)⟩
  ·rintro ⟨p,hp,hs⟩
   have:=WideAt.sameKey_eq hs
   exact List.mem_map.2 ⟨p,hp,by rw [this];rfl⟩
theorem sorted_names {w:World} {b n:Nat} {f:ByteArray→Option Int} (h:MapT w b f n) (hn:n≤5000) :
  Calls Tryz.prog 69 #[.func (.func 80) #[] #[.pointer (some ⟨w.heap.size,0,none⟩)]] (w.alloc (.cells #[.map (some b)] 104)) fun e w'=>∃ (v:Value) (L:List (List UInt8)),e=.returned v∧L.Pairwise (fun a b=>a≤b∧a≠b)∧(∀ t:List UInt8,t∈L↔f ⟨t.toArray⟩≠none)∧L.length≤n∧w'.ownsRow w.heap.size.succ 9 1 v L.length (L.map encStr)∧Chg w w' No:=by
 obtain ⟨D0,hown,hsz,hhas,_⟩:=h;have hbl:=hown.lt;obtain ⟨k1,k2⟩:=strKeys_ok hown
 have hsz1:Maps.size D0≤maxLen:=by unfold maxLen;omega
 have hseq:SeqGives Fence.wide 2 Tryz.prog 80 #[.pointer (some ⟨w.heap.size,0,none⟩)] encStr (fun ss=>ss.Perm (strKeys D0)) (Maps.size D0) (w.alloc (.cells #[.map (some b)] 104)) :=
  AnyZ.keys_gives (ρ:=layKeysS_ren) { layKeysS with } Fence.wide _ trivial rfl (by omega) w.heap.size b _ D0 _ (by simp) (by simp) (by
   obtain ⟨es,clock,hb,Ft,hs,hD⟩:=hown
   exact ⟨es,clock,(Below.heap_alloc _ _ b hbl).trans hb,Ft,hs,hD⟩)
 have cS:=AnyZ.sorted_in laySortedS Fence.wide 5 trivial trivial trivial trivial rfl (by omega) (sortsS _) (enters_of Tryz.func79 (by kernel_rfl) rfl) 80 #[.pointer (some ⟨w.heap.size,0,none⟩)] trivial (enters_of Tryz.func80 (by kernel_rfl) rfl) _ _ hsz1 (by omega) _ hseq
 change CallsIn _ _ Tryz.prog 69 _ _ _ at cS
 refine ((callsIn_wide (n:=5)).1 cS).mono ?_
 rintro e w' ⟨v,ss,rfl,hS,hrow,_,hb⟩
 have e1:(w.alloc (.cells #[.map (some b)] 104)).heap.size=w.heap.size.succ:=by simp
 rw [e1] at hrow;have hP:(ss.mergeSort (fun x y=>decide (x≤y))).Perm (strKeys D0):=(List.mergeSort_perm ss _).trans hS;have hlen:(ss.mergeSort (fun x y=>decide (x≤y))).length=ss.length:=(List.mergeSort_perm ss _).length_eq;refine ⟨v,ss.mergeSort (fun x y=>decide (x≤y)),rfl,?_,fun t => ?_,?_,by rw [hlen];exact hrow,(Chg.alloc w _ No).tr (Chg.of_below hb No)⟩
 ·refine List.Pairwise.and ?_ ((hP.pairwise_iff (fun h=>h.symm)).2 k1)
  refine (List.pairwise_mergeSort (le:=fun x y:List UInt8=>decide (x≤y)) (fun a b c h1 h2 => ?_) (fun a b => ?_) ss).imp (fun h=>of_decide_eq_true h)
  ·exact decide_eq_true (List.le_trans (of_decide_eq_true h1) (of_decide_eq_true h2))
  ·rcases List.le_total a b with h | h
   ·simp [h]
   ·simp [h]
 ·rw [hP.mem_iff,k2]
  have:=hhas ⟨t.toArray⟩;rw [show (⟨t.toArray⟩:ByteArray).data.toList=t by simp] at this;rw [this]
  exact Option.isSome_iff_ne_none
 ·rw [hP.length_eq]
  have:(strKeys D0).length=Maps.size D0:=by
   cases D0 with
   | map es=>simp [strKeys,Maps.size]
   | _=>rfl
  omega
theorem nm_size' {t:ByteArray} (h:NmOk t):t.size≤1000:=by
 unfold NmOk okName at h
 simp only [Bool.and_eq_true,decide_eq_true_eq] at h
 have h2:=h.1.1.1.2;have e:t.data.toList.length=t.size:=Array.length_toList
 omega
theorem row_shape {w:World} {B:Nat} {T:TypeId} {sz:Nat} {v:Value} {n:Nat} {vs:List Value} (h:w.ownsRow B T sz v n vs):∃ a c,v=.slice a n c:=by
 rcases h.2 with ⟨e,e2⟩ | ⟨g,cap,cur,e,_⟩
 ·exact ⟨none,0,by rw [e,e2]⟩
 ·exact ⟨_,_,e⟩
theorem row_cell {w:World} {B n:Nat} {a:Option Addr} {c:Nat} {L:List (List UInt8)} (h:w.ownsRow B 9 1 (.slice a n c) L.length (L.map encStr)) {j:Nat} {t:List UInt8} (hj:L[j]? = some t):∃ g,a=some ⟨g,0,none⟩∧g < w.heap.size∧∀ w',Chg w w' No→w'.cell? ⟨g,j,none⟩=some (.string ⟨t.toArray⟩):=by
 rcases h.2 with ⟨e,e2⟩ | ⟨g,cap,cur,e,hb,hg,r⟩
 ·have:L=[]:=List.length_eq_zero_iff.1 e2
  rw [this] at hj
  cases hj
 ·injection e with e1 e3 e4
  have hlt:g < w.heap.size:=(Array.getElem?_eq_some_iff.1 hg).1;refine ⟨g,e1,hlt,fun w' hc => ?_⟩;subst e1 e3 e4
  have hx:(L.map encStr)[j]? = some (.string ⟨t.toArray⟩):=by rw [List.getElem?_map,hj];rfl
  have:=World.ownsRow.cells h (g:=g) rfl j _ hx
  have hadd:(⟨g,0,none⟩:Addr).add j=⟨g,j,none⟩:=by unfold Addr.add;split <;> simp_all
  rw [hadd] at this;unfold World.cell? at this ⊢;rw [hc.block _ hlt (fun e=>e)]
  exact this
theorem EOw.low {w:World} {B B':Nat} {v:Value} {es:List (ByteArray × Int × Int)} (h:EOw w B v es) (hb:B'≤B):EOw w B' v es:=by
 refine ⟨h.1,?_⟩
 rcases h.2 with k | ⟨g,cap,cur,e,h1,r⟩
 ·exact .inl k
 ·exact .inr ⟨g,cap,cur,e,Nat.le_trans hb h1,r⟩
theorem EOw.keep {w w':World} {B:Nat} {v:Value} {es:List (ByteArray × Int × Int)} {ks:Nat→Prop} (h:EOw w B v es) (hc:Chg w w' ks) (hn:∀ k,v.ownBlock=some k→¬ ks k):EOw w' B v es:=by
 refine ⟨h.1,?_⟩
 rcases h.2 with k | ⟨g,cap,cur,rfl,hb,hg,r⟩
 ·exact .inl k
 ·exact .inr ⟨g,cap,cur,rfl,hb,hc.keep hg (hn g rfl),r⟩
theorem EOw.blk {w:World} {B:Nat} {v:Value} {es:List (ByteArray × Int × Int)} (h:EOw w B v es) {k:Nat} (e:v.ownBlock=some k):B≤k:=by
 rcases h.2 with ⟨e1,_⟩ | ⟨g,cap,cur,e1,h1,_⟩
 ·rw [e1] at e;cases e
 ·rw [e1] at e
  have:g=k:=by simpa [Value.ownBlock] using e
  omega
section
variable {ops:Array Oper} {rest:List Oper} {o:Oper} {a:Act} {Q:Exit→Act→World→Prop} {w:World}
theorem wp_buildE (hg:o.guard=none) (y1 y2 y3:Operand) (ho:o.op=.build 86 #[(0,y1),(1,y2),(2,y3)]) (e:ByteArray × Int × Int) (h1:a.eval y1=.string e.1) (h2:a.eval y2=.int .i64 e.2.1) (h3:a.eval y3=.int .i64 e.2.2) (c:Array Value) (hc:c=(entC e).toArray)
  (h:wpList Tryz.prog ops Q rest (a.put o.dst (.agg c)) w):wpList Tryz.prog ops Q (o :: rest) a w :=
 wpList_plain hg fun _ hK=>by
  have hr:∀ W,(Instr.build 86 #[(0,.string e.1),(1,.int .i64 e.2.1),(2,.int .i64 e.2.2)]).run Tryz.prog W=.ok (.agg c) W:=fun W=>by rw [hc];kernel_rfl
  unfold Oper.wp execOp
  simp only [ho,List.map_toArray,List.map_cons,List.map_nil,h1,h2,h3,Sem.run_bind,hr,Result.andThen_ok,Sem.run_pure]
  exact hK _ _ h
theorem wp_listE (hg:o.guard=none) (y:Operand) (ho:o.op=.buildSlice 41 1 #[(0,y)]) (e:ByteArray × Int × Int) (c:Array Value) (hc:c=(entC e).toArray) (hy:a.eval y=.agg c)
  (h:wpList Tryz.prog ops Q rest (a.put o.dst (.slice (some ⟨w.heap.size,0,none⟩) 1 1)) (w.alloc (.cells c 86))):wpList Tryz.prog ops Q (o :: rest) a w :=
 wpList_plain hg fun _ hK=>by
  have hr:∀ W,(Instr.buildSlice 41 1 #[(0,.agg c)]).run Tryz.prog W=.ok (.slice (some ⟨W.heap.size,0,none⟩) 1 1) (W.alloc (.cells c 86)):=fun W=>by rw [hc];kernel_rfl
  unfold Oper.wp execOp
  simp only [ho,List.map_toArray,List.map_cons,List.map_nil,hy,Sem.run_bind,hr,Result.andThen_ok,Sem.run_pure]
  exact hK _ _ h
end

set_option maxHeartbeats 4000000 in
set_option maxRecDepth 100000 in
theorem list_any {q:PC} {s:PSt} {c:NC} {x:Nd} (i:Int) (w:World) (h:IsPl w q s) (ho:Inv s) (hqc:q.nc i=some c) (hsx:s.nd i=some x) :
  Calls Tryz.prog 55 #[.pointer (some ⟨q.p,0,none⟩),.pointer (some ⟨c.p,0,none⟩)] w fun e w'=>∃ v,e=.returned v∧EOw w' w.heap.size v (listS s x)∧Chg w w' No:=by
 have hN:IsN w c x:=h.at hqc hsx;have hOk:=InvD.nd ho i x hsx;have c6:=hN.c6;have hK:=keys_call c.nb w;have hS:=sorted_names hN.nm hN.cn;have HP:=hid h;have HN:=hid hN;obtain ⟨a5,cp5,hv5⟩:=hN.sl.shape;have HV5:=hid hv5;have HOk:=hid hOk;have HIn:=hid ho;have HSx:=hid hsx;have HCn:=hid hN.cn;clear h ho hqc hsx hN hOk hv5
 go_enter Tryz.func55,Tryz.ntmps55
 go_wp2_with (first
  | (go_at_call 70;go_must (refine hK.mono ?_;rintro e w1 ⟨rfl,rfl⟩))
  | (go_at_call 69;go_must (refine hS.mono ?_;rintro e w2 ⟨v,L,rfl,hL1,hL2,hL3,hrow,hc2⟩;obtain ⟨a,cp,rfl⟩:=row_shape hrow;have HR:=hid hrow;have HC2:=hid hc2;have HNm:Hid (NamesIs x L):=hid ⟨hL1,hL2⟩;have HL3:=hid hL3;clear hrow hc2 hL1 hL2 hL3;obtain ⟨n,hn⟩:∃ y,y=L.length:=⟨_,rfl⟩;rw [←hn] at HR ⊢;have HLn:=hid hn;clear hn))
  | fail)
 go_loopw [5,16] (fun x5 x16 wr=>∃ (k:Nat) (vv:Value),vv=x5∧x16=.int .i64 (k:Int)∧k≤n∧Hid (EOw wr w2.heap.size vv ((L.take k).map (entOf s x))∧Chg w2 wr No)) (fun _ x16 _=>n - (intOf x16).toNat)
 case atStart=>exact ⟨0,_,rfl,rfl,Nat.zero_le _,hid ⟨⟨rfl,.inl ⟨rfl,rfl⟩⟩,Chg.refl _ _⟩⟩
 case round =>
  obtain ⟨k,vv,rfl,rfl,hk,HX⟩:=hrel
  have i5:(n:Int)≤5000:=by have:=HL3.out;have:=HCn.out;have:=HLn.out;omega
  by_cases hkn:k < n
  ·have j0:(0:Int)≤(k:Int):=by omega
   have j1:(k:Int) < (n:Int):=by omega
   have j2:(k:Int)≤5000:=by omega
   obtain ⟨t,ht⟩:∃ t,L[k]? = some t:=⟨_,List.getElem?_eq_getElem (by rw [←HLn.out];exact hkn)⟩;have hR0:=HR.out;rw [HLn.out] at hR0;obtain ⟨g,hga,hgl,hcell⟩:=row_cell hR0 ht;have q1:=hcell wr HX.out.2;have hmem:x.nm ⟨t.toArray⟩≠none:=(HNm.out.2 t).1 (List.mem_of_getElem? ht);obtain ⟨m0,hm0⟩:=Option.ne_none_iff_exists'.1 hmem;obtain ⟨b1,b2,b3⟩:=HOk.out.nm _ _ hm0;obtain ⟨m,rfl⟩:∃ m:Nat,m0=(m:Int):=⟨m0.toNat,by omega⟩;rw [Int.toNat_natCast] at b3;have hnz:=nm_size' (HOk.out.ok _ hmem);have hCw:Chg w wr No:=HC2.out.tr HX.out.2;have hIP:=HP.out.call hCw;have hIN:=HN.out.call hCw;have q5:=hIN.c5;have q6:=hIN.c6;rw [HV5.out] at q5
   have hsl:IOwn wr c.B (.slice a5 x.sl.length cp5) x.sl:=by rw [←HV5.out];exact hIN.sl
   obtain ⟨g5,hg5,q7⟩:=own_cell hsl (j:=m) (by omega);have hri:=InvD.ref HIn.out i x _ HSx.out (getD_mem (l:=x.sl) (k:=m) (by omega)) b3;obtain ⟨y,hy⟩:=Option.ne_none_iff_exists'.1 hri.2;obtain ⟨c',hqc',hNy⟩:=hIP.node hy;have hry:=InvD.rng HIn.out _ y hy;have hnum:=InvD.num HIn.out;have q8:=hNy.c0;obtain ⟨fm,hfm⟩:∃ z,z=(fun i=>(q.nc i).map ptrN):=⟨_,rfl⟩;have HM:Hid (MapV wr q.mb fm):=hid (by rw [hfm];exact hIP.mp);have HMn:=hid hIN.nm;have q2:=hIP.c2;have HFi:Hid ((match fm (x.sl.getD m 0) with | some v=>v | none=>Value.pointer none)=.pointer (some ⟨c'.p,0,none⟩)):=hid (by rw [hfm];simp only [hqc',Option.map_some];rfl);have HEn:Hid (entOf s x t=(⟨t.toArray⟩,x.sl.getD m 0,y.kind)):=hid (by unfold entOf;rw [hm0];simp only [Option.getD_some,Int.toNat_natCast];rw [hy]);have HGd:Hid ((x.nm ⟨t.toArray⟩).getD 0=(m:Int)):=hid (by rw [hm0];rfl);obtain ⟨nm,hnm⟩:∃ z,z=(⟨t.toArray⟩:ByteArray):=⟨_,rfl⟩;obtain ⟨ln,hln⟩:∃ z,z=x.sl.length:=⟨_,rfl⟩;obtain ⟨d,hd⟩:∃ z,z=x.sl.getD m 0:=⟨_,rfl⟩;obtain ⟨kd,hkd⟩:∃ z,z=y.kind:=⟨_,rfl⟩;rw [←hnm] at q1 hnz HGd HEn;rw [←hln] at q5 b2;rw [←hd] at q7 HFi HEn hry;rw [←hkd] at q8 HEn;have hI:I64 d:=⟨by omega,by omega⟩;have HT:=hid ht;have b4:(m:Int) < (ln:Int):=b2
   have b5:(0:Int)≤(m:Int):=by omega
   have b6:(ln:Int)≤5000:=by have:=HOk.out.len;omega
   have HNz:=hid hnz;subst hga hg5;clear hK hS c6 hR0 hgl hcell hmem hm0 hIP hIN hsl hri hy hqc' hNy hry hnum hfm hnm hln hd hkd ht hCw b1 b2 b3 hnz
   go_upto_region 5 with fail
   refine wp_region_noPanic ?_;refine wp_region_held_drew (S:=fun w'=>w'=wr.drew) (by kernel_rfl) rfl (fun hH => ?_);refine tV 0 20 (.pointer (some ⟨c.p,0,none⟩)) rfl (by kernel_rfl) rfl (by rfl) hH (fun W' hw'=>rfl) ?_;simp only [sS];refine tV 1 21 (.pointer (some ⟨c.p,0,none⟩)) rfl (by kernel_rfl) rfl (by rfl) hH (fun W' hw'=>by go_simp) ?_;simp only [sS];refine tV 2 22 (.pointer (some ⟨c.p,5,none⟩)) rfl (by kernel_rfl) rfl (by rfl) hH (fun W' hw'=>by go_simp) ?_;simp only [sS];refine tV 3 23 (.slice (some ⟨g5,0,none⟩) ln cp5) rfl (by kernel_rfl) rfl (by rfl) hH (fun W' hw'=>by subst hw';have hc:wr.drew.cell? ⟨c.p,5,none⟩=some (.slice (some ⟨g5,0,none⟩) ln cp5):=q5;go_simp) ?_;simp only [sS];refine tV 4 24 (.pointer (some ⟨c.p,0,none⟩)) rfl (by kernel_rfl) rfl (by rfl) hH (fun W' hw'=>rfl) ?_;simp only [sS];refine tV 5 25 (.pointer (some ⟨c.p,0,none⟩)) rfl (by kernel_rfl) rfl (by rfl) hH (fun W' hw'=>by go_simp) ?_;simp only [sS];refine tV 6 26 (.pointer (some ⟨c.p,6,none⟩)) rfl (by kernel_rfl) rfl (by rfl) hH (fun W' hw'=>by go_simp) ?_;simp only [sS];refine tV 7 27 (.map (some c.nb)) rfl (by kernel_rfl) rfl (by rfl) hH (fun W' hw'=>by subst hw';have hc:wr.drew.cell? ⟨c.p,6,none⟩=some (.map (some c.nb)):=q6;go_simp) ?_;simp only [sS];refine tV 8 28 (.string nm) rfl (by kernel_rfl) rfl (by rfl) hH (fun W' hw'=>rfl) ?_;simp only [sS];refine tV 9 29 (.int .i64 (m:Int)) rfl (by kernel_rfl) rfl (by rfl) hH (fun W' hw'=>by subst hw';have hc:=(show MapT wr.drew c.nb x.nm x.cnt from HMn.out.keep (Chg.refl wr No).drew (fun e=>e)).look HNz.out;rw [HGd.out] at hc;go_simp) ?_;simp only [sS];refine tV 10 30 (.pointer (some ⟨g5,m,none⟩)) rfl (by kernel_rfl) rfl (by rfl) hH (fun W' hw'=>by go_simp) ?_;simp only [sS];refine tV 11 31 (.int .i64 d) rfl (by kernel_rfl) rfl (by rfl) hH (fun W' hw'=>by subst hw';have hc:wr.drew.cell? ⟨g5,m,none⟩=some (.int .i64 d):=q7;go_simp) ?_;simp only [sS];refine tV 12 8 (.int .i64 d) rfl (by kernel_rfl) rfl (by rfl) hH (fun W' hw'=>rfl) ?_;simp only [sS];refine wpAnyH_done (by kernel_rfl) ?_ _;refine NoPanic.normal ?_;have HXd:Hid (EOw wr.drew w2.heap.size vv ((L.take k).map (entOf s x))∧Chg w2 wr.drew No):=hid ⟨HX.out.1,HX.out.2.drew⟩;have q2d:wr.drew.cell? ⟨q.p,2,none⟩=some (.map (some q.mb)):=q2;have q8d:wr.drew.cell? ⟨c'.p,0,none⟩=some (.int .i64 kd):=q8;have HMd:Hid (MapV wr.drew q.mb fm):=hid (HM.out.keep (Chg.refl wr No).drew (fun e=>e));clear hH HX q1 q2 q5 q6 q7 q8 HM HMn HGd HNz;obtain ⟨w3,hw3⟩:∃ z,z=wr.drew:=⟨_,rfl⟩;rw [←hw3] at HXd q2d q8d HMd ⊢;clear hw3;obtain ⟨C,hC⟩:∃ z,z=(entC (nm,d,kd)).toArray:=⟨_,rfl⟩;have HC:=hid hC;clear hC
   go_wp2_with (first
    | (at_lookup;go_must (refine wp_lookVN rfl _ _ rfl q.mb fm d _ HFi.out rfl rfl HMd.out hI ?_))
    | (refine wp_buildE rfl _ _ _ rfl (nm,d,kd) rfl rfl rfl C HC.out ?_)
    | (refine wp_listE rfl _ rfl (nm,d,kd) C HC.out rfl ?_)
    | (refine wp_appE rfl _ _ rfl w2.heap.size w3.heap.size 1 vv ((L.take k).map (entOf s x)) (nm,d,kd) rfl rfl ?_ ?_ ?_ ?_ ?_;(rotate_left 4;intro v' w4 hE4 hc4;have HE4:=hid hE4;have HC4:=hid hc4;clear hE4 hc4))
    | fail)
   ·refine ⟨⟨k + 1,v',rfl,by go_num,by omega,hid ⟨?_,?_⟩⟩,by simp [intOf];omega⟩
    ·have e:=HE4.out
     rw [←HEn.out] at e;rw [List.take_add_one,HT.out,List.map_append]
     exact e
    ·exact (HXd.out.2.tr (Chg.alloc w3 _ No)).trans HC4.out (fun _ _ e=>e) (fun j hj e=>by have:=HXd.out.1.blk e;omega)
   ·exact HXd.out.1.keep (Chg.alloc w3 _ No) (fun _ _ e=>e)
   ·rw [←HC.out]
    exact heap_alloc_new _ _
   ·rw [List.length_map,List.length_take]
    omega
   ·have:=HXd.out.2.size
    simp
    omega
  ·have j1 : ¬ (k:Int) < (n:Int):=by omega
   have hkn2:k=n:=by omega
   go_wp2_with fail
   go_ret
   refine ⟨vv,rfl,?_,HC2.out.tr HX.out.2⟩;have e:=HX.out.1;rw [hkn2,HLn.out,List.take_length] at e;unfold listS;rw [namesL_is HNm.out]
   exact e.low HC2.out.size
end Go.Proofs.YtmgfilacepnjlaaGreatDoor

namespace Go.Proofs.YtmgfilacepnjlaaGreatDoor
open Go.RowKit

def ansL (v:Value):Array Value:=#[.int .i64 0,.int .i64 0,.int .i64 0,.int .i64 0,.int .i64 0,.int .i64 0,.int .i64 0,.slice none 0 0,v,.bool false]
def AnsIs (w:World) (B:Nat) (A:Array Value):Ans→Prop
 | .err e=>A=ansE e
 | .stat i x=>A=ansS i x
 | .data ds=>∃ g,A=ansD 0 (some ⟨g,0,none⟩) ds.length ds.length∧w.heap[g]? = some (.cells (SA ds) 5 (0,0))∧B≤g
 | .list es=>∃ v,A=ansL v∧EOw w B v es
theorem ansE_one (e:Int):(ansE e).size=10∧(ansE e).all (·.oneCell')=true:=⟨rfl,by simp [ansE,Value.oneCell']⟩
theorem ansS_one (i:Int) (x:Nd):(ansS i x).size=10∧(ansS i x).all (·.oneCell')=true:=⟨rfl,by simp [ansS,Value.oneCell']⟩
theorem ansD_one (e:Int) (a:Option Addr) (n m:Nat):(ansD e a n m).size=10∧(ansD e a n m).all (·.oneCell')=true:=⟨rfl,by simp [ansD,Value.oneCell']⟩
theorem IsPl.blkLt {w:World} {q:PC} {s:PSt} (h:IsPl w q s) {j:Nat} (k:PBlk q j):j < w.heap.size:=by
 rcases k with e | e | ⟨i,c,e1,e2⟩
 ·rw [e]
  exact (Array.getElem?_eq_some_iff.1 h.me).1
 ·rw [e];exact h.mp.lt
 ·obtain ⟨x,_,hN⟩:=h.nd i c e1
  exact hN.lt e2
theorem NdOk.few {x:Nd} (h:NdOk x):x.cnt < 5000:=by
 have:=h.cnt;have:=h.len
 omega

def Left (q:PC) (s':PSt) (w w':World):Prop:=(∃ q',IsPl w' q' s'∧Nxt w q q')∧Chg w w' (PBlk q)
theorem Left.same {q:PC} {s:PSt} {w w':World} (h:IsPl w q s) (hc:Chg w w' No):Left q s w w':=⟨⟨q,h.call hc,Nxt.refl w q⟩,hc.mono fun _ _ e=>e.elim⟩

theorem make_any {q:PC} {s:PSt} (ls:List ByteArray) (a:Option Addr) (kind made:Int) (w:World) (h:IsPl w q s) (hi:Inv s) (hl:LAt w a ls) (hb:ls.length≤1000) (hn:∀ x∈ls,NmOk x) (B:Nat) :
  Calls Tryz.prog 21 #[.pointer (some ⟨q.p,0,none⟩),.slice a ls.length ls.length,.int .i64 kind,.int .i64 made] w fun e w'=>∃ A,e=.returned (.agg A)∧A.size=10∧A.all (·.oneCell')=true∧AnsIs w' B A (makeOp s ls kind made).2∧Left q (makeOp s ls kind made).1 w w':=by
 have ho:=InvD.okS hi
 have hn':∀ x∈ls,x.size≤1000:=fun x hx=>nm_size' (hn x hx)
 unfold makeOp
 by_cases e:lastE s ls=0
 ·rw [if_neg (fun c=>c e)]
  obtain ⟨x,hx,hx2⟩:=lastE_dir e;obtain ⟨c,hqc,hN⟩:=h.node hx;have hNo:=InvD.nd hi _ x hx;have hns:=nm_size' (hn _ (lastN_mem (lastE_ne e)));rw [hx]
  simp only
  cases hf:findN x (lastN ls) with
  | some j =>
   rw [if_pos (show (some j).isSome=true from rfl)];refine (makeOne_there ls a kind made w h ho hl hb hn' e hqc hx hns j hf).mono ?_
   rintro e w' ⟨rfl,hc⟩
   exact ⟨_,rfl,(ansE_one 111).1,(ansE_one 111).2,rfl,Left.same h hc⟩
  | none =>
   rw [if_neg (by simp)]
   by_cases hc:(nodesN s:Int)=s.ino
   ·rw [if_pos hc]
    refine (makeOne_inodes ls a kind made w h ho hl hb hn' e hqc hx hns hf hc).mono ?_
    rintro e w' ⟨rfl,hc⟩
    exact ⟨_,rfl,(ansE_one 81).1,(ansE_one 81).2,rfl,Left.same h hc⟩
   ·rw [if_neg hc]
    by_cases hp:(placeL s x).2=0
    ·rw [if_neg (fun c=>c hp)]
     obtain ⟨f1,f2,f3⟩:=Inv.free hi hc;have hnum:=InvD.num hi;refine (makeOne_nxt ls a kind made (least0 x.sl) w h ho hl hb hn' e hqc hx hns hf hc (place_ok hp).1 (least0_le _) (hNo.place hp) hNo.few (by omega) (by omega) f1).mono ?_
     rintro e w' ⟨⟨q',rfl,h1,h2⟩,h3⟩
     refine ⟨_,rfl,(ansS_one _ _).1,(ansS_one _ _).2,rfl,⟨q',h1,h2⟩,h3.mono fun j _ e => ?_⟩
     rcases e with e | e
     ·exact .inr (.inl e)
     ·exact PBlk.node hqc e
    ·rw [if_pos hp]
     refine (makeOne_place ls a kind made w h ho hl hb hn' e hqc hx hns hf hc hp).mono ?_
     rintro e w' ⟨rfl,hc⟩
     exact ⟨_,rfl,(ansE_one _).1,(ansE_one _).2,rfl,Left.same h hc⟩
 ·rw [if_pos e]
  refine (makeOne_bad ls a kind made w h ho hl hb hn' e).mono ?_
  rintro e w' ⟨rfl,hc⟩
  exact ⟨_,rfl,(ansE_one _).1,(ansE_one _).2,rfl,Left.same h hc⟩
theorem nat_of {s:PSt} (h:Inv s) {i:Int} {x:Nd} (hx:s.nd i=some x):∃ n:Nat,i=(n:Int):=⟨i.toNat,by have:=InvD.rng h i x hx;omega⟩
theorem link_any {q:PC} {s:PSt} (ls ts:List ByteArray) (a b:Option Addr) (w:World) (h:IsPl w q s) (hi:Inv s) (hl:LAt w a ls) (hb:ls.length≤1000) (hn:∀ x∈ls,NmOk x) (hlt:LAt w b ts) (hbt:ts.length≤1000) (hnt:∀ x∈ts,NmOk x) :
  Calls Tryz.prog 22 #[.pointer (some ⟨q.p,0,none⟩),.slice a ls.length ls.length,.slice b ts.length ts.length] w fun e w'=>e=.returned (.int .i64 (linkOp s ls ts).2)∧Left q (linkOp s ls ts).1 w w':=by
 have ho:=InvD.okS hi
 have hn':∀ x∈ls,x.size≤1000:=fun x hx=>nm_size' (hn x hx)
 have hnt':∀ x∈ts,x.size≤1000:=fun x hx=>nm_size' (hnt x hx)
 unfold linkOp
 by_cases e1:(walkL s ls 1).2=0
 ·rw [if_neg (fun c=>c e1)]
  obtain ⟨y,hy⟩:=Inv.walk hi e1;obtain ⟨n,hni⟩:=nat_of hi hy;have hwi:walkL s ls 1=((n:Int),0):=Prod.ext hni e1
  by_cases e:lastE s ts=0
  ·rw [if_neg (fun c=>c e)]
   obtain ⟨x,hx,hx2⟩:=lastE_dir e;have hNo:=InvD.nd hi _ x hx;have hNy:=InvD.nd hi _ y hy;rw [hx,hy];rw [hni] at hy
   simp only [hni]
   cases hf:findN x (lastN ts) with
   | some j =>
    rw [if_pos (show (some j).isSome=true from rfl)]
    exact (link_there ls ts a b w h ho hl hb hn' hlt hbt hnt' n hwi e x y hx hy j hf).mono fun e w' ⟨h1,h2⟩=>⟨h1,Left.same h h2⟩
   | none =>
    rw [if_neg (by simp)]
    by_cases hk:y.kind=2
    ·rw [if_pos hk]
     exact (link_dir ls ts a b w h ho hl hb hn' hlt hbt hnt' n hwi e x y hx hy hf hk).mono fun e w' ⟨h1,h2⟩=>⟨h1,Left.same h h2⟩
    ·rw [if_neg hk]
     by_cases hlk:y.links=100
     ·rw [if_pos hlk]
      exact (link_many ls ts a b w h ho hl hb hn' hlt hbt hnt' n hwi e x y hx hy hf hk hlk).mono fun e w' ⟨h1,h2⟩=>⟨h1,Left.same h h2⟩
     ·rw [if_neg hlk]
      by_cases hp:(placeL s x).2=0
      ·rw [if_neg (fun c=>c hp)]
       exact (link_good ls ts a b w h ho hl hb hn' hlt hbt hnt' n hwi e x y hx hy hf hk hlk (by have:=hNy.links;omega) (least0 x.sl) (place_ok hp).1 (least0_le _) (hNo.place hp) hNo.few).mono fun e w' ⟨h1,h2⟩=>⟨h1,h2⟩
      ·rw [if_pos hp]
       exact (link_place ls ts a b w h ho hl hb hn' hlt hbt hnt' n hwi e x y hx hy hf hk hlk hp).mono fun e w' ⟨h1,h2⟩=>⟨h1,Left.same h h2⟩
  ·rw [if_pos e]
   exact (link_last ls ts a b w h ho hl hb hn' hlt hbt hnt' n hwi e).mono fun e w' ⟨h1,h2⟩=>⟨h1,Left.same h h2⟩
 ·rw [if_pos e1]
  exact (link_walk ls ts a b w h ho hl hb hn' hlt hbt hnt' e1).mono fun e w' ⟨h1,h2⟩=>⟨h1,Left.same h h2⟩
theorem Done.left {q:PC} {s':PSt} {w w':World} (h:Done q s' w w'):Left q s' w w':=h.two
theorem unlink_any {q:PC} {s:PSt} (ls:List ByteArray) (a:Option Addr) (w:World) (h:IsPl w q s) (hi:Inv s) (hl:LAt w a ls) (hb:ls.length≤1000) (hn:∀ x∈ls,NmOk x) :
  Calls Tryz.prog 23 #[.pointer (some ⟨q.p,0,none⟩),.slice a ls.length ls.length] w fun e w'=>e=.returned (.int .i64 (unlinkOp s ls).2)∧Left q (unlinkOp s ls).1 w w':=by
 have ho:=InvD.okS hi
 have hn':∀ x∈ls,x.size≤1000:=fun x hx=>nm_size' (hn x hx)
 unfold unlinkOp
 by_cases e:lastE s ls=0
 ·rw [if_neg (fun c=>c e)]
  obtain ⟨x,hx,hx2⟩:=lastE_dir e;have hNo:=InvD.nd hi _ x hx;rw [hx]
  simp only
  cases hk:x.nm (lastN ls) with
  | none =>
   exact (unlink_none ls a w h ho hl hb hn' e (fun x' hx'=>by rw [hx] at hx';cases hx';exact hk)).mono fun e w' ⟨h1,h2⟩=>⟨h1,Left.same h h2⟩
  | some k =>
   obtain ⟨m,rfl⟩:∃ m:Nat,k=(m:Int):=⟨k.toNat,by have:=(hNo.nm _ k hk).1;omega⟩
   simp only [Int.toNat_natCast]
   obtain ⟨k1,k2,k3⟩:=hNo.nm _ _ hk;obtain ⟨y,hy⟩:=Option.ne_none_iff_exists'.1 (ho.nm _ x _ _ hx hk).2.2;rw [Int.toNat_natCast] at hy;obtain ⟨n,hni⟩:=nat_of hi hy;have hNy:=InvD.nd hi _ y hy;rw [hni] at hy ⊢;rw [hy]
   simp only
   by_cases hy2:y.kind=2
   ·rw [if_pos hy2]
    exact (unlink_kind ls a w h ho hl hb hn' e n m x y hx hk hni hy hy2).mono fun e w' ⟨h1,h2⟩=>⟨h1,Left.same h h2⟩
   ·rw [if_neg hy2]
    exact (unlink_good ls a w h ho hl hb hn' e n m x y hx hk hni hy hy2 (by have:=hNy.links;omega)).mono fun e w' ⟨h1,h2⟩=>⟨h1,h2.left⟩
 ·rw [if_pos e]
  exact (unlink_bad ls a w h ho hl hb hn' e).mono fun e w' ⟨h1,h2⟩=>⟨h1,Left.same h h2⟩
theorem rmdir_any {q:PC} {s:PSt} (ls:List ByteArray) (a:Option Addr) (w:World) (h:IsPl w q s) (hi:Inv s) (hl:LAt w a ls) (hb:ls.length≤1000) (hn:∀ x∈ls,NmOk x) :
  Calls Tryz.prog 24 #[.pointer (some ⟨q.p,0,none⟩),.slice a ls.length ls.length] w fun e w'=>e=.returned (.int .i64 (rmdirOp s ls).2)∧Left q (rmdirOp s ls).1 w w':=by
 have ho:=InvD.okS hi
 have hn':∀ x∈ls,x.size≤1000:=fun x hx=>nm_size' (hn x hx)
 unfold rmdirOp
 by_cases e:lastE s ls=0
 ·rw [if_neg (fun c=>c e)]
  obtain ⟨x,hx,hx2⟩:=lastE_dir e;have hNo:=InvD.nd hi _ x hx;rw [hx]
  simp only
  cases hk:x.nm (lastN ls) with
  | none =>
   exact (rmdir_none ls a w h ho hl hb hn' e (fun x' hx'=>by rw [hx] at hx';cases hx';exact hk)).mono fun e w' ⟨h1,h2⟩=>⟨h1,Left.same h h2⟩
  | some k =>
   obtain ⟨m,rfl⟩:∃ m:Nat,k=(m:Int):=⟨k.toNat,by have:=(hNo.nm _ k hk).1;omega⟩
   simp only [Int.toNat_natCast]
   obtain ⟨y,hy⟩:=Option.ne_none_iff_exists'.1 (ho.nm _ x _ _ hx hk).2.2;rw [Int.toNat_natCast] at hy;obtain ⟨n,hni⟩:=nat_of hi hy;have hNy:=InvD.nd hi _ y hy;rw [hni] at hy ⊢;rw [hy]
   simp only
   by_cases hy2:y.kind=2
   ·rw [if_neg (fun c=>c hy2)]
    by_cases hz:∃ t,y.nm t≠none
    ·rw [if_pos hz]
     exact (rmdir_full ls a w h ho hl hb hn' e n m x y hx hk hni hy hy2 hz).mono fun e w' ⟨h1,h2⟩=>⟨h1,Left.same h h2⟩
    ·rw [if_neg hz]
     exact (rmdir_good ls a w h ho hl hb hn' e n m x y hx hk hni hy hy2 (by have:=hNy.links;omega) (fun t=>Classical.byContradiction fun c=>hz ⟨t,c⟩)).mono fun e w' ⟨h1,h2⟩=>⟨h1,h2.left⟩
   ·rw [if_pos hy2]
    exact (rmdir_kind ls a w h ho hl hb hn' e n m x y hx hk hni hy hy2).mono fun e w' ⟨h1,h2⟩=>⟨h1,Left.same h h2⟩
 ·rw [if_pos e]
  exact (rmdir_bad ls a w h ho hl hb hn' e).mono fun e w' ⟨h1,h2⟩=>⟨h1,Left.same h h2⟩
end Go.Proofs.YtmgfilacepnjlaaGreatDoor

namespace Go.Proofs.YtmgfilacepnjlaaGreatDoor
open Go.RowKit

theorem Done2.from {q:PC} {s':PSt} {w w':World} (h:∃ W,Chg w W No∧Done2 q s' W w'):Left q s' w w':=by
 obtain ⟨W,hc,⟨q',h1,h2⟩,h3⟩:=h
 exact ⟨⟨q',h1,h2.from hc.size⟩,hc.trans h3 (fun _ _ e=>e.elim) (fun _ _ e=>e)⟩
theorem rename_any {q:PC} {s:PSt} (ls ts:List ByteArray) (a b:Option Addr) (w:World) (h:IsPl w q s) (hi:Inv s) (hl:LAt w a ls) (hb:ls.length≤1000) (hn:∀ x∈ls,NmOk x) (hlt:LAt w b ts) (hbt:ts.length≤1000) (hnt:∀ x∈ts,NmOk x) :
  Calls Tryz.prog 25 #[.pointer (some ⟨q.p,0,none⟩),.slice a ls.length ls.length,.slice b ts.length ts.length] w fun e w'=>e=.returned (.int .i64 (renameOp s ls ts).2)∧Left q (renameOp s ls ts).1 w w':=by
 have ho:=InvD.okS hi
 have hn':∀ x∈ls,x.size≤1000:=fun x hx=>nm_size' (hn x hx)
 have hnt':∀ x∈ts,x.size≤1000:=fun x hx=>nm_size' (hnt x hx)
 unfold renameOp
 by_cases e1:lastE s ls=0
 ·rw [if_neg (fun c=>c e1)]
  by_cases e2:lastE s ts=0
  ·rw [if_neg (fun c=>c e2)]
   obtain ⟨x1,hx1,hk1⟩:=lastE_dir e1;obtain ⟨x2,hx2,hk2⟩:=lastE_dir e2;have hs1:=nm_size' (hn _ (lastN_mem (lastE_ne e1)));have hs2:=nm_size' (hnt _ (lastN_mem (lastE_ne e2)));have hN2:=InvD.nd hi _ x2 hx2;rw [hx1,hx2]
   simp only
   cases f1:findN x1 (lastN ls) with
   | none =>
    exact (rename_none ls ts a b w h ho hl hb hn' hlt hbt hnt' e1 e2 (fun x hx=>by rw [hx1] at hx;cases hx;exact find_none f1)).mono fun e w' ⟨h1,h2⟩=>⟨h1,Left.same h h2⟩
   | some i0 =>
    obtain ⟨yi,hyi⟩:=Inv.find hi hx1 f1;obtain ⟨i,rfl⟩:=nat_of hi hyi
    simp only
    by_cases hs:lastD s ts=lastD s ls∧lastN ts=lastN ls
    ·rw [if_pos hs]
     exact (rename_self ls ts a b w h ho hl hb hn' hlt hbt hnt' e1 e2 i x1 yi hx1 f1 hyi hs.1 hs.2).mono fun e w' ⟨h1,h2⟩=>⟨h1,Left.same h h2⟩
    ·rw [if_neg hs,hyi]
     simp only
     cases f2:findN x2 (lastN ts) with
     | none =>
      simp only
      by_cases c1:yi.kind=2∧belowB ts ls=true
      ·rw [if_pos c1]
       exact (rename_loop ls ts a b w h ho hl hb hn' hlt hbt hnt' e1 e2 i x1 yi hx1 f1 hyi hs x2 hx2 f2 c1.1 c1.2).mono fun e w' ⟨h1,h2⟩=>⟨h1,Left.same h h2⟩
      ·rw [if_neg c1]
       have c1':yi.kind=2→belowB ts ls=false:=fun e=>by
        cases hb:belowB ts ls with
        | false=>rfl
        | true=>exact absurd ⟨e,hb⟩ c1
       by_cases c2:yi.links=100
       ·rw [if_pos c2]
        by_cases hk:yi.kind=2
        ·exact (rename_manyD ls ts a b w h ho hl hb hn' hlt hbt hnt' e1 e2 i x1 yi hx1 f1 hyi hs x2 hx2 f2 hk (c1' hk) c2).mono fun e w' ⟨h1,h2⟩=>⟨h1,Left.same h h2⟩
        ·exact (rename_many ls ts a b w h ho hl hb hn' hlt hbt hnt' e1 e2 i x1 yi hx1 f1 hyi hs x2 hx2 f2 hk c2).mono fun e w' ⟨h1,h2⟩=>⟨h1,Left.same h h2⟩
       ·rw [if_neg c2]
        by_cases hp:(placeL s x2).2=0
        ·rw [if_neg (fun c=>c hp)]
         obtain ⟨x1',m,g1,g2,g3,g4,_⟩:=Inv.moveS hi hx1 hx2 hk1 hk2 f1 f2 hp (hnt _ (lastN_mem (lastE_ne e2)));rw [g4]
         have hMv:∀ c1 c2,q.nc (lastD s ls)=some c1→q.nc (lastD s ts)=some c2→∀ W,Chg w W No→Calls Tryz.prog 53 #[.pointer (some ⟨q.p,0,none⟩),.agg #[.pointer (some ⟨c1.p,0,none⟩),.string (lastN ls)],.agg #[.pointer (some ⟨c2.p,0,none⟩),.string (lastN ts)],.int .i64 (i:Int)] W fun e w'=>e=.returned (.int .i64 0)∧Done2 q ((s.put (lastD s ts) (entN x2 (least0 x2.sl) (lastN ts) (i:Int))).put (lastD s ls) (leaN x1' m (lastN ls))) W w' :=
          fun c1 c2 q1 q2 W hW=>move_good (lastD s ls) (lastD s ts) (lastN ls) (lastN ts) (i:Int) W (h.call hW) q1 q2 x2 hx2 hs1 hs2 (least0 x2.sl) (place_ok hp).1 (least0_le _) (hN2.place hp) hN2.few x1' g1 m g2 g3
         by_cases hk:yi.kind=2
         ·exact (rename_moveD ls ts a b w h ho hl hb hn' hlt hbt hnt' e1 e2 i x1 yi hx1 f1 hyi hs x2 hx2 f2 hk (c1' hk) c2 0 _ hMv).mono fun e w' ⟨h1,h2⟩=>⟨h1,Done2.from h2⟩
         ·exact (rename_move ls ts a b w h ho hl hb hn' hlt hbt hnt' e1 e2 i x1 yi hx1 f1 hyi hs x2 hx2 f2 hk c2 0 _ hMv).mono fun e w' ⟨h1,h2⟩=>⟨h1,Done2.from h2⟩
        ·rw [if_pos hp]
         have hMv:∀ c1 c2,q.nc (lastD s ls)=some c1→q.nc (lastD s ts)=some c2→∀ W,Chg w W No→Calls Tryz.prog 53 #[.pointer (some ⟨q.p,0,none⟩),.agg #[.pointer (some ⟨c1.p,0,none⟩),.string (lastN ls)],.agg #[.pointer (some ⟨c2.p,0,none⟩),.string (lastN ts)],.int .i64 (i:Int)] W fun e w'=>e=.returned (.int .i64 (placeL s x2).2)∧Done2 q s W w' :=
          fun c1 c2 q1 q2 W hW=>(move_place (lastD s ls) (lastD s ts) (lastN ls) (lastN ts) (i:Int) W (h.call hW) q1 q2 x2 hx2 hs1 hs2 hp).mono fun e w' ⟨h1,h2⟩=>⟨h1,Left.same (h.call hW) h2⟩
         by_cases hk:yi.kind=2
         ·exact (rename_moveD ls ts a b w h ho hl hb hn' hlt hbt hnt' e1 e2 i x1 yi hx1 f1 hyi hs x2 hx2 f2 hk (c1' hk) c2 _ _ hMv).mono fun e w' ⟨h1,h2⟩=>⟨h1,Done2.from h2⟩
         ·exact (rename_move ls ts a b w h ho hl hb hn' hlt hbt hnt' e1 e2 i x1 yi hx1 f1 hyi hs x2 hx2 f2 hk c2 _ _ hMv).mono fun e w' ⟨h1,h2⟩=>⟨h1,Done2.from h2⟩
     | some j0 =>
      obtain ⟨yj,hyj⟩:=Inv.find hi hx2 f2;obtain ⟨j,rfl⟩:=nat_of hi hyj
      simp only
      rw [hyj]
      simp only
      by_cases c1:yi.kind=2
      ·rw [if_pos (Or.inl c1)]
       exact (rename_dirI ls ts a b w h ho hl hb hn' hlt hbt hnt' e1 e2 i x1 yi hx1 f1 hyi hs x2 hx2 j yj f2 hyj c1).mono fun e w' ⟨h1,h2⟩=>⟨h1,Left.same h h2⟩
      ·by_cases c2:yj.kind=2
       ·rw [if_pos (Or.inr c2)]
        exact (rename_dirJ ls ts a b w h ho hl hb hn' hlt hbt hnt' e1 e2 i x1 yi hx1 f1 hyi hs x2 hx2 j yj f2 hyj c1 c2).mono fun e w' ⟨h1,h2⟩=>⟨h1,Left.same h h2⟩
       ·rw [if_neg (fun c=>c.elim c1 c2)]
        by_cases c3:(j:Int)=(i:Int)
        ·rw [if_pos c3]
         exact (rename_same ls ts a b w h ho hl hb hn' hlt hbt hnt' e1 e2 i x1 yi hx1 f1 hyi hs x2 hx2 j yj f2 hyj c1 c2 (by omega)).mono fun e w' ⟨h1,h2⟩=>⟨h1,Left.same h h2⟩
        ·rw [if_neg c3]
         by_cases c4:yi.links=100
         ·rw [if_pos c4]
          exact (rename_manyT ls ts a b w h ho hl hb hn' hlt hbt hnt' e1 e2 i x1 yi hx1 f1 hyi hs x2 hx2 j yj f2 hyj c1 c2 (by omega) c4).mono fun e w' ⟨h1,h2⟩=>⟨h1,Left.same h h2⟩
         ·rw [if_neg c4]
          obtain ⟨x1',m,m2,g0,g00,g1,g2,g3,g5,g4,_⟩:=Inv.replS hi hx1 hx2 hk1 hk2 f1 f2 hyj c2 c3 hs;rw [g4];have hNy:=InvD.nd hi _ yj hyj
          have hRp:∀ c1 c2,q.nc (lastD s ls)=some c1→q.nc (lastD s ts)=some c2→∀ W,Chg w W No→Calls Tryz.prog 52 #[.pointer (some ⟨q.p,0,none⟩),.agg #[.pointer (some ⟨c1.p,0,none⟩),.string (lastN ls)],.agg #[.pointer (some ⟨c2.p,0,none⟩),.string (lastN ts)],.int .i64 (i:Int),.int .i64 (j:Int)] W fun e w'=>e=.returned (.tuple #[])∧Done2 q (loseS ((s.put (lastD s ts) (entO x2 m2 (lastN ts) (i:Int))).put (lastD s ls) (leaN x1' m (lastN ls))) (j:Int) yj) W w' :=
           fun c1 c2 q1 q2 W hW=>replace_good (lastD s ls) (lastD s ts) (lastN ls) (lastN ts) (i:Int) (j:Int) W (h.call hW) q1 q2 x2 hx2 hs1 hs2 m2 g0 g00 hN2.few x1' g1 m g2 g3 yj g5 (by have:=hNy.links;omega)
          exact (rename_repl ls ts a b w h ho hl hb hn' hlt hbt hnt' e1 e2 i x1 yi hx1 f1 hyi hs x2 hx2 j yj f2 hyj c1 c2 (by omega) c4 _ hRp).mono fun e w' ⟨h1,h2⟩=>⟨h1,Done2.from h2⟩
  ·rw [if_pos e2]
   exact (rename_bad2 ls ts a b w h ho hl hb hn' hlt hbt hnt' e1 e2).mono fun e w' ⟨h1,h2⟩=>⟨h1,Left.same h h2⟩
 ·rw [if_pos e1]
  exact (rename_bad1 ls ts a b w h ho hl hb hn' hlt hbt hnt' e1).mono fun e w' ⟨h1,h2⟩=>⟨h1,Left.same h h2⟩
end Go.Proofs.YtmgfilacepnjlaaGreatDoor
