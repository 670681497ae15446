/-
 package plain: Do of any operation.
-/
import Derived.Test.YtmgfilacepnjlaaGreatDoorVE
namespace Go.Proofs.YtmgfilacepnjlaaGreatDoor
open Go.RowKit

set_option maxHeartbeats 2000000 in
set_option maxRecDepth 100000 in
theorem doAt_readE {q:PC} {s:PSt} {c:NC} {x:Nd} (i:Int) (path tto:ByteArray) (off len:Int) (da:Option Addr) (dl dc:Nat) (made pick:Int) (w:World) (E:Int) (h:IsPl w q s) (hqc:q.nc i=some c) (hsx:s.nd i=some x) (hk : ¬ x.kind=2)
  (hW:∀ W,Chg w W No→Calls Tryz.prog 58 #[.pointer (some ⟨c.p,0,none⟩),.int .i64 off,.int .i64 len] W fun e w'=>e=.returned (.tuple #[.slice none 0 0,.int .i64 E])∧Chg W w' No) :
  Calls Tryz.prog 27 #[.pointer (some ⟨q.p,0,none⟩),.int .i64 i,.agg (opA 9 path tto off len da dl dc made pick)] w fun e w'=>e=.returned (.agg (ansE E))∧Chg w w' No:=by
 obtain ⟨w1,hw1⟩:∃ y,y=(w.alloc (.cells (opA 9 path tto off len da dl dc made pick) 34)).alloc (.cells (ansE 0) 43):=⟨_,rfl⟩;have hcA:Chg w (w.alloc (.cells (opA 9 path tto off len da dl dc made pick) 34)) No:=Chg.alloc w _ No
 have hc1:Chg w w1 No:=by rw [hw1];exact hcA.tr (Chg.alloc _ _ No)
 have hO:w1.heap[w.heap.size]? = some (.cells #[.int .i64 9,.string path,.string tto,.int .i64 off,.int .i64 len,.slice da dl dc,.int .i64 made,.int .i64 pick] 34 (0,0)):=by rw [hw1];exact (Chg.alloc _ _ No).keep (heap_alloc_new w _) (fun e=>e)
 have hA1:w1.heap[w.heap.size + 1]? = some (.cells (ansE 0) 43 (0,0)):=by
  have:=heap_alloc_new (w.alloc (.cells (opA 9 path tto off len da dl dc made pick) 34)) (.cells (ansE 0) 43);rw [show (w.alloc (.cells (opA 9 path tto off len da dl dc made pick) 34)).heap.size=w.heap.size + 1 by simp] at this;rw [hw1]
  exact this
 have HA:Hid (∀ W,Chg w1 W No→W.heap[w.heap.size + 1]? = some (.cells (ansE 0) 43 (0,0))):=hid (fun W hW=>hW.keep hA1 (fun e=>e))
 have hN:IsN w c x:=by
  obtain ⟨x',h1,h2⟩:=h.nd i c hqc;rw [hsx] at h1
  cases h1
  exact h2
 have hrg:=h.rng i (by rw [hqc];intro e;cases e);have hI:I64 i:=⟨by omega,by omega⟩;have c2:=(h.call hc1).c2;obtain ⟨fm,hfm⟩:∃ y,y=(fun i=>(q.nc i).map ptrN):=⟨_,rfl⟩;have HM:Hid (MapV w1 q.mb fm):=hid (by rw [hfm];exact (h.call hc1).mp);have HFi:Hid ((match fm i with | some v=>v | none=>Value.pointer none)=.pointer (some ⟨c.p,0,none⟩)):=hid (by rw [hfm];simp only [hqc,Option.map_some];rfl);have hDr:=isDirectory_any w1 (hN.call hc1);rw [decide_eq_false hk] at hDr;have q0:w1.cell? ⟨w.heap.size,0,none⟩=some (.int .i64 9):=(cell_of_row _ _ _ _ _ _ hO).trans rfl;have q3:w1.cell? ⟨w.heap.size,3,none⟩=some (.int .i64 off):=(cell_of_row _ _ _ _ _ _ hO).trans rfl;have q4:w1.cell? ⟨w.heap.size,4,none⟩=some (.int .i64 len):=(cell_of_row _ _ _ _ _ _ hO).trans rfl;have q5:w1.cell? ⟨w.heap.size,5,none⟩=some (.slice da dl dc):=(cell_of_row _ _ _ _ _ _ hO).trans rfl;have hCl:=hW w1 hc1;have HC1:=hid hc1;unfold opA at hw1 ⊢;unfold ansE at hw1 ⊢;have e1:=hw1;clear hcA hc1 hO hA1 h hqc hsx hk hW hfm hrg hN hw1
 go_enter Tryz.func27,Tryz.ntmps27
 go_upto_region 1 with fail
 rw [←e1];clear e1
 go_wp2_with (first
  | (at_lookup;go_must (refine wp_lookVN rfl _ _ rfl q.mb fm i _ HFi.out rfl rfl HM.out hI ?_))
  | (go_at_call 48;go_must (refine hDr.mono ?_;rintro e w2 ⟨rfl,rfl⟩))
  | (go_at_call 58;go_must (refine hCl.mono ?_;rintro e w4 ⟨rfl,hc4⟩;have HC4:=hid hc4;have HA4:=hid (HA.out w4 hc4);clear hc4))
  | (refine store_R rfl 43 _ _ rfl (w.heap.size + 1) #[.int .i64 E,.int .i64 0,.int .i64 0,.int .i64 0,.int .i64 0,.int .i64 0,.int .i64 0,.slice none 0 0,.slice none 0 0,.bool false] rfl rfl 43 _ HA4.out (by rw [szAn];rfl) rfl (by simp [Value.oneCell']) ?_;intro w5 hw5)
  | fail)
 exact bodyPost_ret (v:=.agg #[.int .i64 E,.int .i64 0,.int .i64 0,.int .i64 0,.int .i64 0,.int .i64 0,.int .i64 0,.slice none 0 0,.slice none 0 0,.bool false]) (results_R1 Tryz.results27 _ _ (w.heap.size + 1) _ 43 _ Tryz.underlying43 rfl (by rw [szAn];rfl) rfl hw5.here) rfl ⟨rfl,(HC1.out.tr HC4.out).trans (kt_new hw5) (fun _ _ e=>e) (fun j hj e=>by omega)⟩

set_option maxHeartbeats 2000000 in
set_option maxRecDepth 100000 in
theorem doAt_listA {q:PC} {s:PSt} {c:NC} {x:Nd} (i:Int) (path tto:ByteArray) (off len:Int) (da:Option Addr) (dl dc:Nat) (made pick:Int) (w:World) (es:List (ByteArray × Int × Int)) (h:IsPl w q s) (hqc:q.nc i=some c) (hsx:s.nd i=some x)
  (hk:x.kind=2) (hL:∀ W,Chg w W No→Calls Tryz.prog 55 #[.pointer (some ⟨q.p,0,none⟩),.pointer (some ⟨c.p,0,none⟩)] W fun e w'=>∃ v,e=.returned v∧EOw w' W.heap.size v es∧Chg W w' No) :
  Calls Tryz.prog 27 #[.pointer (some ⟨q.p,0,none⟩),.int .i64 i,.agg (opA 11 path tto off len da dl dc made pick)] w fun e w'=>∃ v,e=.returned (.agg (ansL v))∧EOw w' w.heap.size v es∧Chg w w' No:=by
 obtain ⟨w1,hw1⟩:∃ y,y=(w.alloc (.cells (opA 11 path tto off len da dl dc made pick) 34)).alloc (.cells (ansE 0) 43):=⟨_,rfl⟩;have hcA:Chg w (w.alloc (.cells (opA 11 path tto off len da dl dc made pick) 34)) No:=Chg.alloc w _ No
 have hc1:Chg w w1 No:=by rw [hw1];exact hcA.tr (Chg.alloc _ _ No)
 have hO:w1.heap[w.heap.size]? = some (.cells #[.int .i64 11,.string path,.string tto,.int .i64 off,.int .i64 len,.slice da dl dc,.int .i64 made,.int .i64 pick] 34 (0,0)):=by rw [hw1];exact (Chg.alloc _ _ No).keep (heap_alloc_new w _) (fun e=>e)
 have hA1:w1.heap[w.heap.size + 1]? = some (.cells (ansE 0) 43 (0,0)):=by
  have:=heap_alloc_new (w.alloc (.cells (opA 11 path tto off len da dl dc made pick) 34)) (.cells (ansE 0) 43);rw [show (w.alloc (.cells (opA 11 path tto off len da dl dc made pick) 34)).heap.size=w.heap.size + 1 by simp] at this;rw [hw1]
  exact this
 have HA:Hid (∀ W,Chg w1 W No→W.heap[w.heap.size + 1]? = some (.cells (ansE 0) 43 (0,0))):=hid (fun W hW=>hW.keep hA1 (fun e=>e))
 have hN:IsN w c x:=by
  obtain ⟨x',h1,h2⟩:=h.nd i c hqc;rw [hsx] at h1
  cases h1
  exact h2
 have hrg:=h.rng i (by rw [hqc];intro e;cases e);have hI:I64 i:=⟨by omega,by omega⟩;have c2:=(h.call hc1).c2;obtain ⟨fm,hfm⟩:∃ y,y=(fun i=>(q.nc i).map ptrN):=⟨_,rfl⟩;have HM:Hid (MapV w1 q.mb fm):=hid (by rw [hfm];exact (h.call hc1).mp);have HFi:Hid ((match fm i with | some v=>v | none=>Value.pointer none)=.pointer (some ⟨c.p,0,none⟩)):=hid (by rw [hfm];simp only [hqc,Option.map_some];rfl);have q0:w1.cell? ⟨w.heap.size,0,none⟩=some (.int .i64 11):=(cell_of_row _ _ _ _ _ _ hO).trans rfl;have hDr:=isDirectory_any w1 (hN.call hc1);rw [decide_eq_true hk] at hDr;have hCl:=hL w1 hc1
 have hb:∀ (a:Option Addr) (n c:Nat) W,(Instr.build 43 #[(3,.slice a n c)]).run Tryz.prog W=.ok (.agg #[.int .i64 0,.int .i64 0,.int .i64 0,.int .i64 0,.int .i64 0,.int .i64 0,.int .i64 0,.slice none 0 0,.slice a n c,.bool false]) W:=fun a n c W=>by kernel_rfl
 have HC1:=hid hc1;have HSz:Hid (w.heap.size + 2≤w1.heap.size):=hid (by rw [hw1];simp);obtain ⟨nl,hnl⟩:∃ y,y=es.length:=⟨_,rfl⟩;have HNl:=hid hnl;clear hnl;unfold opA at hw1 ⊢;unfold ansE at hw1;unfold ansL;have e1:=hw1;clear hcA hc1 hO hA1 h hqc hsx hfm hrg hN hw1 hk hL
 go_enter Tryz.func27,Tryz.ntmps27
 go_upto_region 1 with fail
 rw [←e1];clear e1
 go_wp2_with (first
  | (at_lookup;go_must (refine wp_lookVN rfl _ _ rfl q.mb fm i _ HFi.out rfl rfl HM.out hI ?_))
  | (go_at_call 48;go_must (refine hDr.mono ?_;rintro e w2 ⟨rfl,rfl⟩))
  | (go_at_call 55;go_must (refine hCl.mono ?_;rintro e w4 ⟨v,rfl,hE,hc4⟩;have HE:=hid hE;obtain ⟨av,cv,hv⟩:=row_shape hE;rw [←HNl.out] at hv;subst hv;clear hE;have HC4:=hid hc4;have HA4:=hid (HA.out w4 hc4);clear hc4))
  | (refine store_R rfl 43 _ _ rfl (w.heap.size + 1) #[.int .i64 0,.int .i64 0,.int .i64 0,.int .i64 0,.int .i64 0,.int .i64 0,.int .i64 0,.slice none 0 0,.slice av nl cv,.bool false] rfl rfl 43 _ HA4.out (by rw [szAn];rfl) rfl (by simp [Value.oneCell']) ?_;intro w5 hw5)
  | fail)
 exact bodyPost_ret (v:=.agg #[.int .i64 0,.int .i64 0,.int .i64 0,.int .i64 0,.int .i64 0,.int .i64 0,.int .i64 0,.slice none 0 0,.slice av nl cv,.bool false]) (results_R1 Tryz.results27 _ _ (w.heap.size + 1) _ 43 _ Tryz.underlying43 rfl (by rw [szAn];rfl) rfl hw5.here) rfl ⟨_,rfl,(HE.out.keep (kt_new hw5) (fun k e2 e3=>by have:=HE.out.blk e2;have:=HSz.out;omega)).low (by have:=HC1.out.size;omega),(HC1.out.tr HC4.out).trans (kt_new hw5) (fun _ _ e=>e) (fun j hj e=>by omega)⟩

def DatAt (w:World) (q:PC) (da:Option Addr) (dc:Nat) (ds:List Int):Prop :=
 ds.length≤dc∧(ds≠[]→∃ gd od,da=some ⟨gd,od,none⟩∧gd < w.heap.size∧¬ PBlk q gd∧∀ (j:Nat) v,(ds.map (Value.int .u8))[j]? = some v→w.cell? ((⟨gd,od,none⟩:Addr).add j)=some v)
theorem DatAt.call {w w':World} {q:PC} {da:Option Addr} {dc:Nat} {ds:List Int} (h:DatAt w q da dc ds) (hc:Chg w w' No):DatAt w' q da dc ds:=by
 refine ⟨h.1,fun hd => ?_⟩;obtain ⟨gd,od,h1,h2,h3,h4⟩:=h.2 hd;refine ⟨gd,od,h1,Nat.lt_of_lt_of_le h2 hc.size,h3,fun j v hj => ?_⟩;have:=h4 j v hj;rw [addr_add] at this ⊢;unfold World.cell? at this ⊢;rw [hc.block _ h2 (fun e=>e)]
 exact this
theorem write_any {q:PC} {s:PSt} {c:NC} {x:Nd} (i off:Int) (ds:List Int) (da:Option Addr) (dc:Nat) (w:World) (h:IsPl w q s) (hi:Inv s) (hqc:q.nc i=some c) (hsx:s.nd i=some x) (hd:DatAt w q da dc ds) :
  Calls Tryz.prog 56 #[.pointer (some ⟨q.p,0,none⟩),.pointer (some ⟨c.p,0,none⟩),.int .i64 off,.slice da ds.length dc] w fun e w'=>e=.returned (.int .i64 (writeOp s i x off ds).2)∧Left q (writeOp s i x off ds).1 w w':=by
 have hN:IsN w c x:=h.at hqc hsx;have hOk:=InvD.nd hi i x hsx;unfold writeOp
 by_cases c1:off < 0
 ·rw [if_pos (Or.inl c1)]
  exact (write_neg off da ds.length dc w c1).mono fun e w' ⟨h1,h2⟩=>⟨h1,Left.same h h2⟩
 by_cases c2:131072 < ds.length
 ·rw [if_pos (Or.inr (Or.inl c2))]
  exact (write_long off da ds.length dc w (by omega) c2).mono fun e w' ⟨h1,h2⟩=>⟨h1,Left.same h h2⟩
 by_cases c3:136704 - (ds.length:Int) < off
 ·rw [if_pos (Or.inr (Or.inr c3))]
  exact (write_far off da ds.length dc w (by omega) (by omega) c3).mono fun e w' ⟨h1,h2⟩=>⟨h1,Left.same h h2⟩
 rw [if_neg (fun c=>c.elim c1 (fun c=>c.elim c2 c3))]
 by_cases c4:ds=[]
 ·rw [if_pos c4]
  exact (write_none off da ds.length dc w (by omega) (by rw [c4];rfl) (by omega)).mono fun e w' ⟨h1,h2⟩=>⟨h1,Left.same h h2⟩
 rw [if_neg c4];have hl:1≤ds.length:=List.length_pos_iff.2 c4;obtain ⟨o,rfl⟩:∃ o:Nat,off=(o:Int):=⟨off.toNat,by omega⟩;rw [Int.toNat_natCast]
 by_cases c5:roomB s x (o / 128) ((o + ds.length - 1) / 128 + 1)=true
 ·rw [if_pos c5]
  obtain ⟨gd,od,h1,h2,h3,h4⟩:=hd.2 c4;subst h1;refine (write_many (rowsN x) o ds gd od dc w h hN (fun b=>⟨(hOk.rows b).1,(hOk.rows b).2.1⟩) hl (by omega) (by omega) c5 (fun W hW j v hj => ?_) hd.1).mono ?_
  ·have:=h4 j v hj
   rw [addr_add] at this ⊢;unfold World.cell? at this ⊢;rw [hW.block _ h2 (fun e=>h3 (PBlk.node hqc e))]
   exact this
  ·rintro e w' ⟨rfl,k1,k2⟩
   exact ⟨rfl,⟨_,h.turn hqc k1 rfl rfl rfl rfl (.inl rfl) k2,Nxt.put (v':=c.v) hqc (.inl rfl)⟩,k2.mono fun j _ e=>PBlk.node hqc e⟩
 ·rw [if_neg c5]
  exact (write_full (o:Int) da ds.length dc w h hN o rfl hl (by omega) (by omega) (by simpa using c5)).mono fun e w' ⟨h1,h2⟩=>⟨h1,Left.same h h2⟩
theorem trunc_any {q:PC} {s:PSt} {c:NC} {x:Nd} (i n:Int) (w:World) (h:IsPl w q s) (hi:Inv s) (hqc:q.nc i=some c) (hsx:s.nd i=some x) :
  Calls Tryz.prog 57 #[.pointer (some ⟨c.p,0,none⟩),.int .i64 n] w fun e w'=>e=.returned (.int .i64 (truncOp s i x n).2)∧Left q (truncOp s i x n).1 w w':=by
 have hN:IsN w c x:=h.at hqc hsx;have hOk:=InvD.nd hi i x hsx
 have hF:∀ y v,x.blk y=some v→(0≤y∧y < 1068)∧∃ l:List Int,v=.agg (SA l)∧l.length=128:=fun y v hv=>by
  obtain ⟨h1,l,h2,h3,_⟩:=hOk.blk y v hv
  exact ⟨h1,l,h2,h3⟩
 unfold truncOp
 by_cases c1:n < 0
 ·rw [if_pos (Or.inl c1)]
  exact (trunc_neg n w c1).mono fun e w' ⟨h1,h2⟩=>⟨h1,Left.same h h2⟩
 by_cases c2:136704 < n
 ·rw [if_pos (Or.inr c2)]
  exact (trunc_far n w c2).mono fun e w' ⟨h1,h2⟩=>⟨h1,Left.same h h2⟩
 rw [if_neg (fun c=>c.elim c1 c2)];unfold cutN
 by_cases c3:x.blk (n / 128)=none∨n % 128=0
 ·rw [if_pos c3]
  refine (trunc_off n w hN hF (by omega) (by omega) c3).mono ?_
  rintro e w' ⟨rfl,k1,k2⟩
  exact ⟨rfl,⟨_,h.turn hqc k1 rfl rfl rfl rfl (.inl rfl) k2,Nxt.put (v':=c.v) hqc (.inl rfl)⟩,k2.mono fun j _ e=>PBlk.node hqc e⟩
 ·rw [if_neg c3]
  have hr:=hOk.rows (n / 128).toNat
  have e0:(((n / 128).toNat:Nat):Int)=n / 128:=by omega
  obtain ⟨v,hv⟩:=Option.ne_none_iff_exists'.1 (fun e=>c3 (.inl e));rw [e0,hv] at hr
  have hv2:x.blk (n / 128)=some (.agg (SA (rowsN x (n / 128).toNat))):=by rw [hv];exact congrArg some hr.1
  refine (trunc_cut n (rowsN x (n / 128).toNat) w hN hF (by omega) (by omega) hr.2.1 hv2 (by omega)).mono ?_
  rintro e w' ⟨rfl,k1,k2⟩
  exact ⟨rfl,⟨_,h.turn hqc k1 rfl rfl rfl rfl (.inl rfl) k2,Nxt.put (v':=c.v) hqc (.inl rfl)⟩,k2.mono fun j _ e=>PBlk.node hqc e⟩
theorem AnsIs.put {w w':World} {B g:Nat} {A r o:Array Value} {an:Ans} (h:AnsIs w B A an) (hp:PutR w g r 43 w') (hg:w.heap[g]? = some (.cells o 43 (0,0))):AnsIs w' B A an:=by
 cases an with
 | err e=>exact h
 | stat i x=>exact h
 | data ds =>
  obtain ⟨k,h1,h2,h3⟩:=h
  exact ⟨k,h1,putR_keep hp h2 (fun e=>by rw [e] at h2;rw [h2] at hg;cases hg),h3⟩
 | list es =>
  obtain ⟨v,h1,h2⟩:=h;refine ⟨v,h1,h2.keep (kt_new hp) (fun k e1 e2 => ?_)⟩
  rcases h2.2 with ⟨e3,_⟩ | ⟨g',cap,cur,e3,_,h4,_⟩
  ·rw [e3] at e1;cases e1
  ·rw [e3] at e1
   have:g'=k:=by simpa [Value.ownBlock] using e1
   rw [this,e2,hg] at h4
   cases h4
theorem at_any {q:PC} {s:PSt} (i:Int) (o:OpS) (da:Option Addr) (dc:Nat) (w:World) (h:IsPl w q s) (hi:Inv s) (hx:s.nd i≠none) (hd:DatAt w q da dc o.data) (hk:o.kind=7∨o.kind=8∨o.kind=9∨o.kind=10∨o.kind=11∨o.kind=13) :
  Calls Tryz.prog 27 #[.pointer (some ⟨q.p,0,none⟩),.int .i64 i,.agg (opA o.kind o.path o.tto o.off o.len da o.data.length dc o.made o.pick)] w fun e w'=>∃ A,e=.returned (.agg A)∧A.size=10∧A.all (·.oneCell')=true∧AnsIs w' w.heap.size A (atOp s i o).2∧Left q (atOp s i o).1 w w':=by
 obtain ⟨x,hsx⟩:=Option.ne_none_iff_exists'.1 hx;obtain ⟨c,hqc,hN⟩:=h.node hsx;have hOk:=InvD.nd hi i x hsx;unfold atOp;rw [hsx]
 simp only
 have hRput:∀ (s':PSt) (w1 w2:World) (r o:Array Value),(∃ q',IsPl w1 q' s'∧Nxt w q q')→w1.heap[w.heap.size + 1]? = some (.cells o 43 (0,0))→PutR w1 (w.heap.size + 1) r 43 w2→∃ q',IsPl w2 q' s'∧Nxt w q q':=fun s' w1 w2 r o ⟨q',h1,h2⟩ hg hp=>⟨q',h1.putR hp hg,h2⟩
 by_cases k10:o.kind=10
 ·rw [if_pos k10,k10]
  refine (doAt_stat i o.path o.tto o.off o.len da o.data.length dc o.made o.pick w h hqc hsx).mono ?_
  rintro e w' ⟨rfl,hc⟩
  exact ⟨_,rfl,(ansS_one _ _).1,(ansS_one _ _).2,rfl,Left.same h hc⟩
 rw [if_neg k10]
 by_cases k11:o.kind=11
 ·rw [if_pos k11,k11]
  by_cases hk2:x.kind=2
  ·rw [if_pos hk2]
   refine (doAt_listA i o.path o.tto o.off o.len da o.data.length dc o.made o.pick w (listS s x) h hqc hsx hk2 (fun W hW=>list_any i W (h.call hW) hi hqc hsx)).mono ?_
   rintro e w' ⟨v,rfl,hE,hc⟩
   obtain ⟨a,cp,hv⟩:=row_shape hE
   exact ⟨_,rfl,rfl,by rw [hv];simp [ansL,Value.oneCell'],⟨v,rfl,hE⟩,Left.same h hc⟩
  ·rw [if_neg hk2]
   refine (doAt_listF i o.path o.tto o.off o.len da o.data.length dc o.made o.pick w h hqc hsx hk2).mono ?_
   rintro e w' ⟨rfl,hc⟩
   exact ⟨_,rfl,(ansE_one _).1,(ansE_one _).2,rfl,Left.same h hc⟩
 rw [if_neg k11]
 by_cases hk2:x.kind=2
 ·rw [if_pos hk2]
  have hE:∀ (e:Ending) (w':World),e=.returned (.agg (ansE 102))∧Chg w w' No→∃ A,e=.returned (.agg A)∧A.size=10∧A.all (·.oneCell')=true∧AnsIs w' w.heap.size A (.err 102)∧Left q s w w':=fun e w' ⟨h1,hc⟩=>⟨_,h1,(ansE_one _).1,(ansE_one _).2,rfl,Left.same h hc⟩
  rcases hk with k | k | k | k | k | k
  ·rw [k];exact (doAt_dirW i o.path o.tto o.off o.len da o.data.length dc o.made o.pick w h hqc hsx hk2).mono hE
  ·rw [k];exact (doAt_dirT i o.path o.tto o.off o.len da o.data.length dc o.made o.pick w h hqc hsx hk2).mono hE
  ·rw [k];exact (doAt_dirR i o.path o.tto o.off o.len da o.data.length dc o.made o.pick w h hqc hsx hk2).mono hE
  ·exact absurd k k10
  ·exact absurd k k11
  ·rw [k];exact (doAt_dirF i o.path o.tto o.off o.len da o.data.length dc o.made o.pick w h hqc hsx hk2).mono hE
 rw [if_neg hk2]
 by_cases k7:o.kind=7
 ·rw [if_pos k7,k7]
  refine (doAt_write i o.path o.tto o.off o.len da o.data.length dc o.made o.pick w (writeOp s i x o.off o.data).2 (fun w'=>∃ q',IsPl w' q' (writeOp s i x o.off o.data).1∧Nxt w q q') (PBlk q) (fun k e=>h.blkLt e) h hqc hsx hk2 (fun W hW => ?_) (fun w1 w2 r o h1 h2 h3=>hRput _ w1 w2 r o h1 h2 h3)).mono ?_
  ·refine (write_any i o.off o.data da dc W (h.call hW) hi hqc hsx (hd.call hW)).mono ?_
   rintro e w' ⟨rfl,⟨q',h1,h2⟩,h3⟩
   exact ⟨rfl,⟨q',h1,h2.from hW.size⟩,h3⟩
  ·rintro e w' ⟨rfl,h1,h2⟩
   exact ⟨_,rfl,(ansE_one _).1,(ansE_one _).2,rfl,h1,h2⟩
 rw [if_neg k7]
 by_cases k8:o.kind=8
 ·rw [if_pos k8,k8]
  refine (doAt_trunc i o.path o.tto o.off o.len da o.data.length dc o.made o.pick w (truncOp s i x o.off).2 (fun w'=>∃ q',IsPl w' q' (truncOp s i x o.off).1∧Nxt w q q') (PBlk q) (fun k e=>h.blkLt e) h hqc hsx hk2 (fun W hW => ?_) (fun w1 w2 r o h1 h2 h3=>hRput _ w1 w2 r o h1 h2 h3)).mono ?_
  ·refine (trunc_any i o.off W (h.call hW) hi hqc hsx).mono ?_
   rintro e w' ⟨rfl,⟨q',h1,h2⟩,h3⟩
   exact ⟨rfl,⟨q',h1,h2.from hW.size⟩,h3⟩
  ·rintro e w' ⟨rfl,h1,h2⟩
   exact ⟨_,rfl,(ansE_one _).1,(ansE_one _).2,rfl,h1,h2⟩
 rw [if_neg k8]
 by_cases k9:o.kind=9
 ·rw [if_pos k9,k9]
  have hE:∀ E (e:Ending) (w':World),e=.returned (.agg (ansE E))∧Chg w w' No→∃ A,e=.returned (.agg A)∧A.size=10∧A.all (·.oneCell')=true∧AnsIs w' w.heap.size A (.err E)∧Left q s w w':=fun E e w' ⟨h1,hc⟩=>⟨_,h1,(ansE_one _).1,(ansE_one _).2,rfl,Left.same h hc⟩
  show Calls _ _ _ _ (fun e w'=>∃ A,e=.returned (.agg A)∧A.size=10∧A.all (·.oneCell')=true∧AnsIs w' w.heap.size A (readOp x o.off o.len)∧Left q s w w')
  unfold readOp
  by_cases d1:o.off < 0
  ·rw [if_pos (Or.inl d1)]
   exact (doAt_readE i o.path o.tto o.off o.len da o.data.length dc o.made o.pick w 101 h hqc hsx hk2 (fun W hW=>read_neg o.off o.len W d1)).mono (hE 101)
  by_cases d2:o.len < 0
  ·rw [if_pos (Or.inr (Or.inl d2))]
   exact (doAt_readE i o.path o.tto o.off o.len da o.data.length dc o.made o.pick w 101 h hqc hsx hk2 (fun W hW=>read_cnt o.off o.len W (by omega) d2)).mono (hE 101)
  by_cases d3:131072 < o.len
  ·rw [if_pos (Or.inr (Or.inr d3))]
   exact (doAt_readE i o.path o.tto o.off o.len da o.data.length dc o.made o.pick w 101 h hqc hsx hk2 (fun W hW=>read_long o.off o.len W (by omega) d3)).mono (hE 101)
  rw [if_neg (fun c=>c.elim d1 (fun c=>c.elim d2 d3))]
  by_cases d4:x.size≤o.off
  ·rw [if_pos d4]
   exact (doAt_readE i o.path o.tto o.off o.len da o.data.length dc o.made o.pick w 0 h hqc hsx hk2 (fun W hW=>read_end o.off o.len W (hN.call hW) (by omega) (by omega) (by omega) d4)).mono (hE 0)
  rw [if_neg d4];obtain ⟨p,hp⟩:∃ p:Nat,o.off=(p:Int):=⟨o.off.toNat,by omega⟩;have hsz:=hOk.size;rw [hp,Int.toNat_natCast];rw [hp] at d4;refine (doAt_read i o.path o.tto (p:Int) o.len da o.data.length dc o.made o.pick w (min o.len (x.size - (p:Int))).toNat (SA (BY (rowsN x) p (min o.len (x.size - (p:Int))).toNat)) h hqc hsx hk2 (fun W hW=>read_many (rowsN x) p _ o.len W (hN.call hW) (fun b=>⟨(hOk.rows b).1,(hOk.rows b).2.1⟩) (by omega) (by omega) (by omega) (by omega) (by omega))).mono ?_
  rintro e w' ⟨g,rfl,h1,hc,h2⟩
  refine ⟨_,rfl,(ansD_one _ _ _ _).1,(ansD_one _ _ _ _).2,⟨g,by rw [BY_len],h1,h2⟩,Left.same h hc⟩
 rw [if_neg k9]
 have k13:o.kind=13:=by omega
 rw [k13];refine (doAt_fsync i o.path o.tto o.off o.len da o.data.length dc o.made o.pick w h hqc hsx hk2).mono ?_
 rintro e w' ⟨rfl,hc⟩
 exact ⟨_,rfl,(ansE_one _).1,(ansE_one _).2,rfl,Left.same h hc⟩
end Go.Proofs.YtmgfilacepnjlaaGreatDoor

namespace Go.Proofs.YtmgfilacepnjlaaGreatDoor
open Go.RowKit

theorem AnsIs.low {w:World} {B B':Nat} {A:Array Value} {an:Ans} (h:AnsIs w B A an) (hb:B'≤B):AnsIs w B' A an:=by
 cases an with
 | err e=>exact h
 | stat i x=>exact h
 | data ds =>
  obtain ⟨g,h1,h2,h3⟩:=h
  exact ⟨g,h1,h2,Nat.le_trans hb h3⟩
 | list es =>
  obtain ⟨v,h1,h2⟩:=h
  exact ⟨v,h1,h2.low hb⟩
theorem walkL_bad {s:PSt}:∀ (l:List ByteArray) (i:Int),(walkL s l i).2≠0→(walkL s l i).1=0
 | [],i,h=>absurd rfl h
 | n :: l,i,h=>by
  cases hx:s.nd i with
  | none =>
   unfold walkL;rw [hx]
  | some x =>
   rw [walkL_step hx] at h ⊢
   by_cases hk:x.kind=2
   ·rw [if_pos hk] at h ⊢
    cases hf:findN x n with
    | none=>rfl
    | some j =>
     rw [hf] at h
     exact walkL_bad l j h
   ·rw [if_neg hk]
theorem names_is {p:ByteArray} {ls:List ByteArray} (h:datas ls=(splitR p.data.toList).1):ls=namesOf p:=by
 refine datas_inj (h.trans ?_);unfold namesOf datas;rw [List.map_map]
 exact ((List.map_congr_left (g:=id) fun l _=>by simp).trans (List.map_id _)).symm
theorem names_few {p:ByteArray} (h:(splitR p.data.toList).2=0):(namesOf p).length≤1000:=by
 have hk:=split_ok (l:=p.data.toList) (xs:=(splitR p.data.toList).1) (by rw [←h])
 have:∀ xs:List (List UInt8),xs.length≤sizes xs:=fun xs=>by
  induction xs with
  | nil=>exact Nat.zero_le _
  | cons x xs ih =>
   unfold sizes at ih ⊢
   simp only [List.map_cons,List.sum_cons,List.length_cons]
   omega
 have:=this (splitR p.data.toList).1;unfold namesOf;rw [List.length_map]
 omega
theorem mayBe_no (o:OpS) (da:Option Addr) (dc:Nat) (w:World) (hu:UB w) (h : ¬ okOp o) :
  Calls Tryz.prog 19 #[.agg (opA o.kind o.path o.tto o.off o.len da o.data.length dc o.made o.pick)] w fun e w'=>e=.returned (.bool false)∧Chg w w' No:=by
 by_cases h1:o.kind < 1
 ·exact mayBe_low o.kind o.path o.tto o.off o.len da o.data.length dc o.made o.pick w h1
 by_cases h2:14 < o.kind
 ·exact mayBe_high o.kind o.path o.tto o.off o.len da o.data.length dc o.made o.pick w h2
 obtain ⟨k,hk⟩:∃ k:Nat,o.kind=(k:Int):=⟨o.kind.toNat,by omega⟩;unfold okOp at h;rw [hk,Int.toNat_natCast] at h;rw [hk]
 by_cases hz:bits .andNot .i64 (givF o.path o.tto o.off o.len o.data.length o.made o.pick) (usedL.getD k 0)=0
 ·by_cases h3:o.made < 0
  ·exact mayBe_neg k o.path o.tto o.off o.len da o.data.length dc o.made o.pick w hu (by omega) (by omega) hz h3
  ·exact mayBe_far k o.path o.tto o.off o.len da o.data.length dc o.made o.pick w hu (by omega) (by omega) hz (by
    refine Classical.byContradiction fun c=>h ⟨by omega,hz,by omega,by omega⟩)
 ·exact mayBe_used k o.path o.tto o.off o.len da o.data.length dc o.made o.pick w hu (by omega) (by omega) hz
set_option maxHeartbeats 2000000 in
theorem do_any {q:PC} {s:PSt} (o:OpS) (da:Option Addr) (dc:Nat) (w:World) (h:IsPl w q s) (hi:Inv s) (hu:UB w) (hm:ML w) (hd:DatAt w q da dc o.data) :
  Calls Tryz.prog 9 #[.pointer (some ⟨q.p,0,none⟩),.agg (opA o.kind o.path o.tto o.off o.len da o.data.length dc o.made o.pick)] w fun e w'=>∃ A,e=.returned (.agg A)∧AnsIs w' w.heap.size A (doS s o).2∧Left q (doS s o).1 w w':=by
 have ho:=InvD.okS hi
 have hE:∀ E (e:Ending) (w':World),e=.returned (.agg (ansE E))∧Chg w w' No→∃ A,e=.returned (.agg A)∧AnsIs w' w.heap.size A (.err E)∧Left q s w w':=fun E e w' ⟨h1,hc⟩=>⟨_,h1,rfl,Left.same h hc⟩
 have hks:∀ k,PBlk q k→k < w.heap.size:=fun k e=>h.blkLt e
 have hRp:∀ (s':PSt) (w1 w2:World) (r o:Array Value),(∃ q',IsPl w1 q' s'∧Nxt w q q')→w1.heap[w.heap.size + 1]? = some (.cells o 43 (0,0))→PutR w1 (w.heap.size + 1) r 43 w2→∃ q',IsPl w2 q' s'∧Nxt w q q':=fun s' w1 w2 r o ⟨q',h1,h2⟩ hg hp=>⟨q',h1.putR hp hg,h2⟩
 unfold doS
 by_cases e0:okOp o
 ·rw [if_neg (fun c=>c e0)]
  obtain ⟨⟨r1,r2⟩,hz,hm0,hm1⟩:=e0
  by_cases e1:o.kind=12∨o.kind=14
  ·rw [if_pos e1]
   rcases e1 with k | k
   ·rw [k] at hz ⊢
    exact (do_sync o.path o.tto o.off o.len da o.data.length dc o.made o.pick w hu hz hm0 hm1).mono (hE 0)
   ·rw [k] at hz ⊢
    exact (do_flush o.path o.tto o.off o.len da o.data.length dc o.made o.pick w hu hz hm0 hm1).mono (hE 0)
  rw [if_neg e1]
  by_cases e2:(splitR o.path.data.toList).2=0
  ·rw [if_neg (fun c=>c e2)]
   have hn:=namesOf_ok e2;have hf:=names_few e2
   by_cases e3:(o.kind=3∨o.kind=6)∧(splitR o.tto.data.toList).2≠0
   ·rw [if_pos e3]
    rcases e3.1 with k | k
    ·rw [k] at hz ⊢
     exact (do_tbad3 o.path o.tto o.off o.len da o.data.length dc o.made o.pick w hu hm hz hm0 hm1 _ rfl e2 e3.2).mono (hE _)
    ·rw [k] at hz ⊢
     exact (do_tbad6 o.path o.tto o.off o.len da o.data.length dc o.made o.pick w hu hm hz hm0 hm1 _ rfl e2 e3.2).mono (hE _)
   rw [if_neg e3]
   have e4:o.kind=3∨o.kind=6→(splitR o.tto.data.toList).2=0:=fun c=>Classical.byContradiction fun c2=>e3 ⟨c,c2⟩
   by_cases k1:o.kind=1
   ·rw [if_pos k1]
    rw [k1] at hz ⊢;refine (do_create (q:=q) o.path o.tto o.off o.len da o.data.length dc o.made o.pick w (fun A w'=>AnsIs w' w.heap.size A (makeOp s (namesOf o.path) 1 o.made).2∧∃ q',IsPl w' q' (makeOp s (namesOf o.path) 1 o.made).1∧Nxt w q q') (PBlk q) hks hu hm hz hm0 hm1 e2 (fun W a ls hW hl hL => ?_) (fun A w1 w2 r o h1 h2 h3=>⟨h1.1.put h3 h2,hRp _ w1 w2 r o h1.2 h2 h3⟩)).mono ?_
    ·have hls:=names_is hl
     subst hls;refine (make_any (namesOf o.path) a 1 o.made W (h.call hW) hi hL hf hn w.heap.size).mono ?_
     rintro e w' ⟨A,rfl,h1,h2,h3,⟨q',h4,h5⟩,h6⟩
     exact ⟨A,rfl,h1,h2,⟨h3,q',h4,h5.from hW.size⟩,h6⟩
    ·rintro e w' ⟨A,rfl,⟨h1,h2⟩,h3⟩
     exact ⟨A,rfl,h1,h2,h3⟩
   rw [if_neg k1]
   by_cases k2:o.kind=2
   ·rw [if_pos k2]
    rw [k2] at hz ⊢;refine (do_mkdir (q:=q) o.path o.tto o.off o.len da o.data.length dc o.made o.pick w (fun A w'=>AnsIs w' w.heap.size A (makeOp s (namesOf o.path) 2 o.made).2∧∃ q',IsPl w' q' (makeOp s (namesOf o.path) 2 o.made).1∧Nxt w q q') (PBlk q) hks hu hm hz hm0 hm1 e2 (fun W a ls hW hl hL => ?_) (fun A w1 w2 r o h1 h2 h3=>⟨h1.1.put h3 h2,hRp _ w1 w2 r o h1.2 h2 h3⟩)).mono ?_
    ·have hls:=names_is hl
     subst hls;refine (make_any (namesOf o.path) a 2 o.made W (h.call hW) hi hL hf hn w.heap.size).mono ?_
     rintro e w' ⟨A,rfl,h1,h2,h3,⟨q',h4,h5⟩,h6⟩
     exact ⟨A,rfl,h1,h2,⟨h3,q',h4,h5.from hW.size⟩,h6⟩
    ·rintro e w' ⟨A,rfl,⟨h1,h2⟩,h3⟩
     exact ⟨A,rfl,h1,h2,h3⟩
   rw [if_neg k2]
   by_cases k3:o.kind=3
   ·rw [if_pos k3]
    have e5:=e4 (by omega);rw [k3] at hz ⊢;have hnt:=namesOf_ok e5;have hft:=names_few e5;refine (do_link (q:=q) o.path o.tto o.off o.len da o.data.length dc o.made o.pick w (fun E w'=>E=(linkOp s (namesOf o.path) (namesOf o.tto)).2∧∃ q',IsPl w' q' (linkOp s (namesOf o.path) (namesOf o.tto)).1∧Nxt w q q') (PBlk q) hks hu hm hz hm0 hm1 e2 e5 (fun W a ls b ts hW hl hL ht hT => ?_) (fun A w1 w2 r o h1 h2 h3=>⟨h1.1,hRp _ w1 w2 r o h1.2 h2 h3⟩)).mono ?_
    ·have hls:=names_is hl
     have hts:=names_is ht;subst hls hts;refine (link_any (namesOf o.path) (namesOf o.tto) a b W (h.call hW) hi hL hf hn hT hft hnt).mono ?_
     rintro e w' ⟨rfl,⟨q',h4,h5⟩,h6⟩
     exact ⟨_,rfl,⟨rfl,q',h4,h5.from hW.size⟩,h6⟩
    ·rintro e w' ⟨E,rfl,⟨rfl,h2⟩,h3⟩
     exact ⟨_,rfl,rfl,h2,h3⟩
   rw [if_neg k3]
   by_cases k4:o.kind=4
   ·rw [if_pos k4]
    rw [k4] at hz ⊢;refine (do_unlink (q:=q) o.path o.tto o.off o.len da o.data.length dc o.made o.pick w (fun E w'=>E=(unlinkOp s (namesOf o.path)).2∧∃ q',IsPl w' q' (unlinkOp s (namesOf o.path)).1∧Nxt w q q') (PBlk q) hks hu hm hz hm0 hm1 e2 (fun W a ls hW hl hL => ?_) (fun A w1 w2 r o h1 h2 h3=>⟨h1.1,hRp _ w1 w2 r o h1.2 h2 h3⟩)).mono ?_
    ·have hls:=names_is hl
     subst hls;refine (unlink_any (namesOf o.path) a W (h.call hW) hi hL hf hn).mono ?_
     rintro e w' ⟨rfl,⟨q',h4,h5⟩,h6⟩
     exact ⟨_,rfl,⟨rfl,q',h4,h5.from hW.size⟩,h6⟩
    ·rintro e w' ⟨E,rfl,⟨rfl,h2⟩,h3⟩
     exact ⟨_,rfl,rfl,h2,h3⟩
   rw [if_neg k4]
   by_cases k5:o.kind=5
   ·rw [if_pos k5]
    rw [k5] at hz ⊢;refine (do_rmdir (q:=q) o.path o.tto o.off o.len da o.data.length dc o.made o.pick w (fun E w'=>E=(rmdirOp s (namesOf o.path)).2∧∃ q',IsPl w' q' (rmdirOp s (namesOf o.path)).1∧Nxt w q q') (PBlk q) hks hu hm hz hm0 hm1 e2 (fun W a ls hW hl hL => ?_) (fun A w1 w2 r o h1 h2 h3=>⟨h1.1,hRp _ w1 w2 r o h1.2 h2 h3⟩)).mono ?_
    ·have hls:=names_is hl
     subst hls;refine (rmdir_any (namesOf o.path) a W (h.call hW) hi hL hf hn).mono ?_
     rintro e w' ⟨rfl,⟨q',h4,h5⟩,h6⟩
     exact ⟨_,rfl,⟨rfl,q',h4,h5.from hW.size⟩,h6⟩
    ·rintro e w' ⟨E,rfl,⟨rfl,h2⟩,h3⟩
     exact ⟨_,rfl,rfl,h2,h3⟩
   rw [if_neg k5]
   by_cases k6:o.kind=6
   ·rw [if_pos k6]
    have e5:=e4 (by omega);rw [k6] at hz ⊢;have hnt:=namesOf_ok e5;have hft:=names_few e5;refine (do_rename (q:=q) o.path o.tto o.off o.len da o.data.length dc o.made o.pick w (fun E w'=>E=(renameOp s (namesOf o.path) (namesOf o.tto)).2∧∃ q',IsPl w' q' (renameOp s (namesOf o.path) (namesOf o.tto)).1∧Nxt w q q') (PBlk q) hks hu hm hz hm0 hm1 e2 e5 (fun W a ls b ts hW hl hL ht hT => ?_) (fun A w1 w2 r o h1 h2 h3=>⟨h1.1,hRp _ w1 w2 r o h1.2 h2 h3⟩)).mono ?_
    ·have hls:=names_is hl
     have hts:=names_is ht;subst hls hts;refine (rename_any (namesOf o.path) (namesOf o.tto) a b W (h.call hW) hi hL hf hn hT hft hnt).mono ?_
     rintro e w' ⟨rfl,⟨q',h4,h5⟩,h6⟩
     exact ⟨_,rfl,⟨rfl,q',h4,h5.from hW.size⟩,h6⟩
    ·rintro e w' ⟨E,rfl,⟨rfl,h2⟩,h3⟩
     exact ⟨_,rfl,rfl,h2,h3⟩
   rw [if_neg k6]
   have hnm':∀ x∈namesOf o.path,x.size≤1000:=fun x hx=>nm_size' (hn x hx)
   by_cases kw:(walkL s (namesOf o.path) 1).2=0
   ·rw [if_neg (fun c=>c kw)]
    have hWk:∀ W a ls,Chg w W No→datas ls=(splitR o.path.data.toList).1→LAt W a ls→Calls Tryz.prog 26 #[.pointer (some ⟨q.p,0,none⟩),.slice a ls.length ls.length] W fun e w'=>e=.returned (.tuple #[.int .i64 (walkL s (namesOf o.path) 1).1,.int .i64 0])∧w'=W:=fun W a ls hW hl hL=>by
     have hls:=names_is hl;subst hls;have:=walk_any (namesOf o.path) a (namesOf o.path).length W (h.call hW) ho hL hf hnm';rw [kw] at this
     exact this
    have hx:=walkL_some ho (namesOf o.path) 1 ho.root kw
    have hRa:∀ (A:Array Value) (w1 w2:World) (r o':Array Value),(AnsIs w1 w.heap.size A (atOp s (walkL s (namesOf o.path) 1).1 o).2∧∃ q',IsPl w1 q' (atOp s (walkL s (namesOf o.path) 1).1 o).1∧Nxt w q q')→w1.heap[w.heap.size + 1]? = some (.cells o' 43 (0,0))→PutR w1 (w.heap.size + 1) r 43 w2→(AnsIs w2 w.heap.size A (atOp s (walkL s (namesOf o.path) 1).1 o).2∧∃ q',IsPl w2 q' (atOp s (walkL s (namesOf o.path) 1).1 o).1∧Nxt w q q'):=fun A w1 w2 r o h1 h2 h3=>⟨h1.1.put h3 h2,hRp _ w1 w2 r o h1.2 h2 h3⟩
    have hM:∀ (k:Int),o.kind=k→(k=7∨k=8∨k=9∨k=10∨k=11∨k=13)→∀ W,Chg w W No→Calls Tryz.prog 27 #[.pointer (some ⟨q.p,0,none⟩),.int .i64 (walkL s (namesOf o.path) 1).1,.agg (opA k o.path o.tto o.off o.len da o.data.length dc o.made o.pick)] W fun e w'=>∃ A,e=.returned (.agg A)∧A.size=10∧A.all (·.oneCell')=true∧(AnsIs w' w.heap.size A (atOp s (walkL s (namesOf o.path) 1).1 o).2∧∃ q',IsPl w' q' (atOp s (walkL s (namesOf o.path) 1).1 o).1∧Nxt w q q')∧Chg W w' (PBlk q):=fun k hk hkk W hW=>by
     subst hk;refine (at_any (walkL s (namesOf o.path) 1).1 o da dc W (h.call hW) hi hx (hd.call hW) hkk).mono ?_
     rintro e w' ⟨A,rfl,h1,h2,h3,⟨q',h4,h5⟩,h6⟩
     exact ⟨A,rfl,h1,h2,⟨h3.low hW.size,q',h4,h5.from hW.size⟩,h6⟩
    have hFin:∀ (e:Ending) (w':World),(∃ A,e=.returned (.agg A)∧(AnsIs w' w.heap.size A (atOp s (walkL s (namesOf o.path) 1).1 o).2∧∃ q',IsPl w' q' (atOp s (walkL s (namesOf o.path) 1).1 o).1∧Nxt w q q')∧Chg w w' (PBlk q))→∃ A,e=.returned (.agg A)∧AnsIs w' w.heap.size A (atOp s (walkL s (namesOf o.path) 1).1 o).2∧Left q (atOp s (walkL s (namesOf o.path) 1).1 o).1 w w':=fun e w' ⟨A,h1,h2,h3⟩=>⟨A,h1,h2.1,h2.2,h3⟩
    have hcs:o.kind=7∨o.kind=8∨o.kind=9∨o.kind=10∨o.kind=11∨o.kind=13:=by omega
    rcases hcs with k | k | k | k | k | k
    ·have hM':=hM 7 k (by omega)
     rw [k] at hz ⊢
     exact (do_atK (q:=q) 7 (by decide) (by decide) (by decide) o.path o.tto o.off o.len da o.data.length dc o.made o.pick (walkL s (namesOf o.path) 1).1 w _ (PBlk q) hks hu hm hz hm0 hm1 e2 hWk hM' hRa).mono hFin
    ·have hM':=hM 8 k (by omega)
     rw [k] at hz ⊢
     exact (do_atK (q:=q) 8 (by decide) (by decide) (by decide) o.path o.tto o.off o.len da o.data.length dc o.made o.pick (walkL s (namesOf o.path) 1).1 w _ (PBlk q) hks hu hm hz hm0 hm1 e2 hWk hM' hRa).mono hFin
    ·have hM':=hM 9 k (by omega)
     rw [k] at hz ⊢
     exact (do_atK (q:=q) 9 (by decide) (by decide) (by decide) o.path o.tto o.off o.len da o.data.length dc o.made o.pick (walkL s (namesOf o.path) 1).1 w _ (PBlk q) hks hu hm hz hm0 hm1 e2 hWk hM' hRa).mono hFin
    ·have hM':=hM 10 k (by omega)
     rw [k] at hz ⊢
     exact (do_atK (q:=q) 10 (by decide) (by decide) (by decide) o.path o.tto o.off o.len da o.data.length dc o.made o.pick (walkL s (namesOf o.path) 1).1 w _ (PBlk q) hks hu hm hz hm0 hm1 e2 hWk hM' hRa).mono hFin
    ·have hM':=hM 11 k (by omega)
     rw [k] at hz ⊢
     exact (do_atK (q:=q) 11 (by decide) (by decide) (by decide) o.path o.tto o.off o.len da o.data.length dc o.made o.pick (walkL s (namesOf o.path) 1).1 w _ (PBlk q) hks hu hm hz hm0 hm1 e2 hWk hM' hRa).mono hFin
    ·have hM':=hM 13 k (by omega)
     rw [k] at hz ⊢
     exact (do_atK (q:=q) 13 (by decide) (by decide) (by decide) o.path o.tto o.off o.len da o.data.length dc o.made o.pick (walkL s (namesOf o.path) 1).1 w _ (PBlk q) hks hu hm hz hm0 hm1 e2 hWk hM' hRa).mono hFin
   ·rw [if_pos kw]
    have hWk:∀ W a ls,Chg w W No→datas ls=(splitR o.path.data.toList).1→LAt W a ls→Calls Tryz.prog 26 #[.pointer (some ⟨q.p,0,none⟩),.slice a ls.length ls.length] W fun e w'=>e=.returned (.tuple #[.int .i64 0,.int .i64 (walkL s (namesOf o.path) 1).2])∧w'=W:=fun W a ls hW hl hL=>by
     have hls:=names_is hl;subst hls;have:=walk_any (namesOf o.path) a (namesOf o.path).length W (h.call hW) ho hL hf hnm';rw [walkL_bad _ _ kw] at this
     exact this
    have hcs:o.kind=7∨o.kind=8∨o.kind=9∨o.kind=10∨o.kind=11∨o.kind=13:=by omega
    rcases hcs with k | k | k | k | k | k
    ·rw [k] at hz ⊢
     exact (do_bad (q:=q) 7 (by decide) (by decide) (by decide) o.path o.tto o.off o.len da o.data.length dc o.made o.pick _ w kw hu hm hz hm0 hm1 e2 hWk).mono (hE _)
    ·rw [k] at hz ⊢
     exact (do_bad (q:=q) 8 (by decide) (by decide) (by decide) o.path o.tto o.off o.len da o.data.length dc o.made o.pick _ w kw hu hm hz hm0 hm1 e2 hWk).mono (hE _)
    ·rw [k] at hz ⊢
     exact (do_bad (q:=q) 9 (by decide) (by decide) (by decide) o.path o.tto o.off o.len da o.data.length dc o.made o.pick _ w kw hu hm hz hm0 hm1 e2 hWk).mono (hE _)
    ·rw [k] at hz ⊢
     exact (do_bad (q:=q) 10 (by decide) (by decide) (by decide) o.path o.tto o.off o.len da o.data.length dc o.made o.pick _ w kw hu hm hz hm0 hm1 e2 hWk).mono (hE _)
    ·rw [k] at hz ⊢
     exact (do_bad (q:=q) 11 (by decide) (by decide) (by decide) o.path o.tto o.off o.len da o.data.length dc o.made o.pick _ w kw hu hm hz hm0 hm1 e2 hWk).mono (hE _)
    ·rw [k] at hz ⊢
     exact (do_bad (q:=q) 13 (by decide) (by decide) (by decide) o.path o.tto o.off o.len da o.data.length dc o.made o.pick _ w kw hu hm hz hm0 hm1 e2 hWk).mono (hE _)
  ·rw [if_pos e2]
   have hcs:o.kind=1∨o.kind=2∨o.kind=3∨o.kind=4∨o.kind=5∨o.kind=6∨o.kind=7∨o.kind=8∨o.kind=9∨o.kind=10∨o.kind=11∨o.kind=13:=by omega
   rcases hcs with k | k | k | k | k | k | k | k | k | k | k | k
   ·rw [k] at hz ⊢
    exact (do_sbad (q:=q) 1 (by decide) (by decide) (by decide) o.path o.tto o.off o.len da o.data.length dc o.made o.pick w hu hm hz hm0 hm1 _ rfl e2).mono (hE _)
   ·rw [k] at hz ⊢
    exact (do_sbad (q:=q) 2 (by decide) (by decide) (by decide) o.path o.tto o.off o.len da o.data.length dc o.made o.pick w hu hm hz hm0 hm1 _ rfl e2).mono (hE _)
   ·rw [k] at hz ⊢
    exact (do_sbad (q:=q) 3 (by decide) (by decide) (by decide) o.path o.tto o.off o.len da o.data.length dc o.made o.pick w hu hm hz hm0 hm1 _ rfl e2).mono (hE _)
   ·rw [k] at hz ⊢
    exact (do_sbad (q:=q) 4 (by decide) (by decide) (by decide) o.path o.tto o.off o.len da o.data.length dc o.made o.pick w hu hm hz hm0 hm1 _ rfl e2).mono (hE _)
   ·rw [k] at hz ⊢
    exact (do_sbad (q:=q) 5 (by decide) (by decide) (by decide) o.path o.tto o.off o.len da o.data.length dc o.made o.pick w hu hm hz hm0 hm1 _ rfl e2).mono (hE _)
   ·rw [k] at hz ⊢
    exact (do_sbad (q:=q) 6 (by decide) (by decide) (by decide) o.path o.tto o.off o.len da o.data.length dc o.made o.pick w hu hm hz hm0 hm1 _ rfl e2).mono (hE _)
   ·rw [k] at hz ⊢
    exact (do_sbad (q:=q) 7 (by decide) (by decide) (by decide) o.path o.tto o.off o.len da o.data.length dc o.made o.pick w hu hm hz hm0 hm1 _ rfl e2).mono (hE _)
   ·rw [k] at hz ⊢
    exact (do_sbad (q:=q) 8 (by decide) (by decide) (by decide) o.path o.tto o.off o.len da o.data.length dc o.made o.pick w hu hm hz hm0 hm1 _ rfl e2).mono (hE _)
   ·rw [k] at hz ⊢
    exact (do_sbad (q:=q) 9 (by decide) (by decide) (by decide) o.path o.tto o.off o.len da o.data.length dc o.made o.pick w hu hm hz hm0 hm1 _ rfl e2).mono (hE _)
   ·rw [k] at hz ⊢
    exact (do_sbad (q:=q) 10 (by decide) (by decide) (by decide) o.path o.tto o.off o.len da o.data.length dc o.made o.pick w hu hm hz hm0 hm1 _ rfl e2).mono (hE _)
   ·rw [k] at hz ⊢
    exact (do_sbad (q:=q) 11 (by decide) (by decide) (by decide) o.path o.tto o.off o.len da o.data.length dc o.made o.pick w hu hm hz hm0 hm1 _ rfl e2).mono (hE _)
   ·rw [k] at hz ⊢
    exact (do_sbad (q:=q) 13 (by decide) (by decide) (by decide) o.path o.tto o.off o.len da o.data.length dc o.made o.pick w hu hm hz hm0 hm1 _ rfl e2).mono (hE _)
 ·rw [if_pos e0]
  exact (do_no (q:=q) o.kind o.path o.tto o.off o.len da o.data.length dc o.made o.pick w (fun W hW=>mayBe_no o da dc W (hu.keep hW (fun e=>e)) e0)).mono (hE 150)
end Go.Proofs.YtmgfilacepnjlaaGreatDoor
