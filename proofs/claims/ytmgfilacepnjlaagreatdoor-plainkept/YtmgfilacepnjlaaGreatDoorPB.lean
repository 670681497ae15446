/-
 package plain: may an operation be?
-/
import Derived.Test.YtmgfilacepnjlaaGreatDoorPM
-- may lack
namespace Go.Proofs.YtmgfilacepnjlaaGreatDoor
open Go.RowKit

section
variable {ops:Array Oper} {rest:List Oper} {o:Oper} {a:Act} {Q:Exit→Act→World→Prop} {w:World}
theorem wp_insVN (hg:o.guard=none) (m x v:Operand) (hop:o.op=Op.insert 80 m x v) (b:Nat) (f:Int→Option Value) (k:Int) (d:Value) (hm:a.eval m=.map (some b)) (hx:a.eval x=.int .i64 k) (hv:a.eval v=d)
  (h:MapV w b f) (hk:I64 k) (hf:∃ L:List Int,L.length≤5000∧∀ x,(f x).isSome=true→x∈L)
  (hK:∀ w',MapV w' b (fun y=>if y=k then some d else f y)→Chg w w' (· = b)→w'.heap.size=w.heap.size→wpList Tryz.prog ops Q rest (a.put o.dst undef) w'):wpList Tryz.prog ops Q (o :: rest) a w:=by
 refine wpList_plain hg fun K' hK' => ?_
 obtain ⟨w',hrun,r1,r2,r3⟩:=h.storeN hk d hf;unfold Oper.wp
 simp [execOp,hop,hm,hx,hv,hrun,Result.andThen]
 exact hK' _ _ (hK w' r1 r2 r3)
end
def SizeOk (n m:Int):Prop:=8≤n∧n≤4096∧1≤m∧m≤512∧m + 2≤n
def newS (n m:Int):PSt:=⟨n - 1 - m,m,fun i=>if i=1 then some (newNd 2 0) else none⟩

set_option maxHeartbeats 2000000 in
set_option maxRecDepth 100000 in
theorem new_good (n m:Int) (w:World) (h:SizeOk n m) :
  Calls Tryz.prog 18 #[.int .i64 n,.int .i64 m] w fun e w'=>∃ q:PC,e=.returned (.tuple #[.pointer (some ⟨q.p,0,none⟩),.int .i64 0])∧IsPl w' q (newS n m)∧Chg w w' No∧w.heap.size≤q.p∧w.heap.size≤q.mb∧∀ i c,q.nc i=some c→∀ k,BlkN c k→w.heap.size≤k:=by
 obtain ⟨h1,h2,h3,h4,h5⟩:=h
 have a1 : ¬ n < 8:=by omega
 have a2 : ¬ 4096 < n:=by omega
 have a3 : ¬ m < 1:=by omega
 have a4 : ¬ 512 < m:=by omega
 have a5 : ¬ n < m + 2:=by omega
 have hmm := @run_makeMap Tryz.prog;have hNw:=newNode_any 2 0 w
 go_enter Tryz.func18,Tryz.ntmps18
 go_wp2_with (first
  | (go_at_call 39;go_must (refine hNw.mono ?_;rintro e w1 ⟨c,rfl,hN1,hc1,p1,p2,p3,hv1,hB1⟩;have HN1:=hid hN1;have HC1:=hid hc1;have HPs:=hid hB1;have HBl:Hid (∀ k,BlkN c k→w.heap.size≤k):=hid (fun k hk=>by rcases hk with e | e | e | e;exact e ▸ p1;exact e ▸ p2;exact e ▸ p3;rw [hv1] at e;cases e);clear hN1 hc1 p1 p2 p3 hv1 hB1))
  | (refine wp_insVN rfl _ _ _ rfl w1.heap.size (fun _=>none) 1 _ rfl rfl rfl (MapV.made w1) ⟨by decide,by decide⟩ ⟨[],by simp,by intro x hx;cases hx⟩ ?_;intro w3 hm3 hc3 hz3;have HM3:=hid hm3;have HC3:=hid hc3;have HZ3:=hid hz3;clear hm3 hc3 hz3)
  | fail)
 have hEnd:∀ W,W=w3.alloc (.cells #[.int .i64 (n - 1 - m),.int .i64 m,.map (some w1.heap.size)] 82)→IsPl W ⟨w3.heap.size,w1.heap.size,fun i=>if i=1 then some c else none⟩ (newS n m)∧Chg w W No:=fun W hW=>by
  have k2:Chg w1 (w1.alloc (.map #[] 0)) No:=Chg.alloc _ _ No
  have k4:Chg w3 W No:=by rw [hW];exact Chg.alloc _ _ No
  have hsz:w3.heap.size=w1.heap.size + 1:=by rw [HZ3.out];simp
  have k3:Chg w1 w3 No:=k2.trans HC3.out (fun _ _ e=>e) (fun j hj e=>by omega);have hN:IsN W c (newNd 2 0):=(HN1.out.call k3).call k4
  have hb:c.bb≠w1.heap.size:=by have:=HN1.out.bl.lt;omega
  have hb2:c.nb≠w1.heap.size:=by have:=HN1.out.nm.lt;omega
  refine ⟨⟨?_,?_,?_,?_,?_,?_,?_,?_⟩,(HC1.out.tr k3).tr k4⟩
  ·rw [hW]
   exact heap_alloc_new _ _
  ·refine (HM3.out.keep k4 (fun e=>e)).cong fun x => ?_
   by_cases e:x=1
   ·simp only [e,if_pos];rfl
   ·simp only [if_neg e];rfl
  ·intro i d hd
   by_cases e:i=1
   ·have hd:(if i=1 then some c else none)=some d:=hd
    rw [if_pos e] at hd
    cases hd
    refine ⟨newNd 2 0,?_,hN⟩
    show (if i=1 then some (newNd 2 0) else none)=_
    rw [if_pos e]
   ·have hd:(if i=1 then some c else none)=some d:=hd
    rw [if_neg e] at hd
    cases hd
  ·intro i hi
   by_cases e:i=1
   ·have hi:(if i=1 then some c else none)=none:=hi
    rw [if_pos e] at hi
    cases hi
   ·show (if i=1 then some (newNd 2 0) else none)=none
    rw [if_neg e]
  ·intro i hi
   by_cases e:i=1
   ·omega
   ·exact absurd (show (if i=1 then some c else none)=none by rw [if_neg e]) hi
  ·intro i j d1 d2 e1 e2 hij
   have e1:(if i=1 then some c else none)=some d1:=e1;have e2:(if j=1 then some c else none)=some d2:=e2
   by_cases e:i=1
   ·rw [if_neg (by omega)] at e2
    cases e2
   ·rw [if_neg e] at e1
    cases e1
  ·intro i d hd
   have hd:(if i=1 then some c else none)=some d:=hd
   by_cases e:i=1
   ·rw [if_pos e] at hd
    cases hd
    exact ⟨hb,hb2⟩
   ·rw [if_neg e] at hd
    cases hd
  ·intro i d hd
   have hd:(if i=1 then some c else none)=some d:=hd
   by_cases e:i=1
   ·rw [if_pos e] at hd
    cases hd
    exact HPs.out
   ·rw [if_neg e] at hd
    cases hd
 have HEnd:=hid hEnd;clear hEnd
 go_ret2
 obtain ⟨q1,q2⟩:=HEnd.out _ rfl;refine ⟨_,rfl,q1,q2,by have:=HC1.out.size;have:=HZ3.out;simp at this ⊢;omega,HC1.out.size,?_⟩
 intro i d hd
 have hd:(if i=1 then some c else none)=some d:=hd
 by_cases e:i=1
 ·rw [if_pos e] at hd
  cases hd
  exact HBl.out
 ·rw [if_neg e] at hd
  cases hd
end Go.Proofs.YtmgfilacepnjlaaGreatDoor

namespace Go.Proofs.YtmgfilacepnjlaaGreatDoor
open Go.RowKit

end Go.Proofs.YtmgfilacepnjlaaGreatDoor

namespace Go.Proofs.YtmgfilacepnjlaaGreatDoor
open Go.RowKit

theorem szSp:(Tryz.prog.info? 95).map (·.size)=some 2:=by kernel_rfl
def zSpot:Array Value:=#[.pointer none,.string ⟨#[]⟩]
theorem walkL_some {s:PSt} (ho:OkS s):∀ (l:List ByteArray) (i:Int),s.nd i≠none→(walkL s l i).2=0→s.nd (walkL s l i).1≠none
 | [],i,h,_=>h
 | n :: l,i,h,e=>by
  cases hx:s.nd i with
  | none=>exact absurd hx h
  | some x =>
   rw [walkL_step hx] at e ⊢
   by_cases hk:x.kind=2
   ·rw [if_pos hk] at e ⊢
    cases hf:findN x n with
    | none=>rw [hf] at e;exact absurd (show (110:Int)=0 from e) (by decide)
    | some j =>
     rw [hf] at e;refine walkL_some ho l j ?_ e;unfold findN at hf
     cases hn:x.nm n with
     | none=>rw [hn] at hf;cases hf
     | some k =>
      rw [hn] at hf;have e2:x.sl.getD k.toNat 0=j:=Option.some.inj hf;rw [←e2]
      exact (ho.nm i x n k hx hn).2.2
   ·rw [if_neg hk] at e
    exact absurd e (by decide)
def lastD (s:PSt) (ls:List ByteArray):Int:=(walkL s ls.dropLast 1).1
def lastE (s:PSt) (ls:List ByteArray):Int :=
 if ls=[] then 143 else if (walkL s ls.dropLast 1).2=0 then (match s.nd (lastD s ls) with | some x=>if x.kind=2 then 0 else 113 | none=>113) else (walkL s ls.dropLast 1).2
def lastN (ls:List ByteArray):ByteArray:=ls.getD (ls.length - 1) ByteArray.empty
theorem LAt.init {w:World} {a:Option Addr} {ls:List ByteArray} (h:LAt w a ls):LAt w a ls.dropLast:=by
 rcases h with rfl | ⟨g,h1,h2,h3⟩
 ·exact .inl rfl
 ·refine .inr ⟨g,h1,h2,fun j x hj=>h3 j x ?_⟩
  rw [List.getElem?_dropLast] at hj
  split at hj
  ·exact hj
  ·cases hj
theorem lookN_run {W:World} {o:Oper} {a:Act} (m x:Operand) (hop:o.op=Op.lookup 80 m x false) (b:Nat) (f:Int→Option Value) (k:Int) (c:Value) (hc:(match f k with | some v=>v | none=>.pointer none)=c) (hm:a.eval m=.map (some b)) (hx:a.eval x=.int .i64 k) (h:MapV W b f) (hk:I64 k):(execOp a.eval o).run Tryz.prog W=.ok (.value c) W:=by
 subst hc
 simp [execOp,hop,hm,hx,h.lookN hk,Result.andThen]
 rfl

set_option maxHeartbeats 2000000 in
set_option maxRecDepth 100000 in
theorem wlast_bad {q:PC} {s:PSt} (ls:List ByteArray) (a:Option Addr) (w:World) (h:IsPl w q s) (ho:OkS s) (hl:LAt w a ls) (hb:ls.length≤1000) (hn:∀ x∈ls,x.size≤1000) (hE:lastE s ls≠0) :
  Calls Tryz.prog 42 #[.pointer (some ⟨q.p,0,none⟩),.slice a ls.length ls.length] w fun e w'=>e=.returned (.tuple #[.agg zSpot,.int .i64 (lastE s ls)])∧Chg w w' No:=by
 obtain ⟨w1,hw1⟩:∃ y,y=w.alloc (.cells zSpot 95):=⟨_,rfl⟩
 have hc1:Chg w w1 No:=by rw [hw1];exact Chg.alloc w _ No
 have HQs:Hid (w1.heap[w.heap.size]? = some (.cells zSpot 95 (0,0))):=hid (by rw [hw1];exact heap_alloc_new w _);have HC1:=hid hc1;unfold lastE at hE ⊢
 by_cases he:ls=[]
 ·rw [if_pos he]
  subst he;rw [hw1] at HQs HC1;clear h ho hl hn hE hw1 hc1 hb
  go_enter Tryz.func42,Tryz.ntmps42
  go_wp2_with (first
   | (refine store_R rfl 95 _ _ rfl w.heap.size zSpot rfl rfl 95 _ HQs.out (by rw [szSp];rfl) rfl (by simp [zSpot,Value.oneCell']) ?_;intro w6 hw6)
   | fail)
  exact bodyPost_ret (v:=.tuple #[.agg zSpot,.int .i64 143]) (results_R Tryz.results42 _ _ w.heap.size _ 95 _ _ Tryz.underlying95 rfl (by rw [szSp];rfl) rfl rfl hw6.here) rfl ⟨rfl,HC1.out.trans (kt_new hw6) (fun _ _ e=>e) (fun j hj e=>by omega)⟩
 rw [if_neg he] at hE ⊢;have hpos:0 < ls.length:=List.length_pos_iff.2 he;have h1:=h.call hc1
 have hl1:LAt w1 a ls:=by
  rcases hl with e | ⟨g,k1,k2,k3⟩
  ·exact .inl e
  ·exact .inr ⟨g,k1,Nat.lt_of_lt_of_le k2 hc1.size,fun j x hj=>by
    have:=k3 j x hj;unfold World.cell? at this ⊢;rw [hc1.block _ k2 (fun e=>e)]
    exact this⟩
 have hWk:=walk_any ls.dropLast a ls.length w1 h1 ho hl1.init (by rw [List.length_dropLast];omega) (fun x hx=>hn x (List.dropLast_subset _ hx));rw [List.length_dropLast] at hWk;obtain ⟨n,hnn⟩:∃ y,y=ls.length:=⟨_,rfl⟩;rw [←hnn] at hWk hb hpos ⊢;obtain ⟨k,rfl⟩:∃ k,n=k + 1:=⟨n - 1,by omega⟩;rw [show k + 1 - 1=k by omega] at hWk
 have i1:(k:Int)≤1000:=by omega
 have i0 : ¬ ((k:Int) + 1=0):=by omega
 have i2:((k:Int) + 1 == 0)=false:=beq_eq_false_iff_ne.2 i0
 by_cases hw0:(walkL s ls.dropLast 1).2=0
 ·rw [if_pos hw0] at hE ⊢
  obtain ⟨c,x,hqc,hsx,hN,r1,r2⟩:=h1.at_ (walkL_some ho _ 1 ho.root hw0);have hsx2:s.nd (lastD s ls)=some x:=hsx;rw [hsx2] at hE ⊢
  simp only at hE ⊢
  have hk : ¬ x.kind=2:=fun e=>hE (if_pos e)
  rw [if_neg hk];have hDr:=isDirectory_any w1 hN;rw [decide_eq_false hk] at hDr;rw [hw0] at hWk;obtain ⟨fm,hfm⟩:∃ y,y=(fun i=>(q.nc i).map ptrN):=⟨_,rfl⟩;have HM:Hid (MapV w1 q.mb fm):=hid (by rw [hfm];exact h1.mp);have HFi:Hid ((match fm (walkL s ls.dropLast 1).1 with | some v=>v | none=>Value.pointer none)=.pointer (some ⟨c.p,0,none⟩)):=hid (by rw [hfm];simp only [hqc,Option.map_some];rfl);obtain ⟨d,hd⟩:∃ y,y=(walkL s ls.dropLast 1).1:=⟨_,rfl⟩;rw [←hd] at hWk HFi r1 r2;have hI:I64 d:=⟨by omega,by omega⟩;have c2:=h1.c2;rw [hw1] at HQs HC1 hWk hDr HM c2;clear h h1 ho hl hl1 hn hE hw1 hc1 hb hnn hpos hqc hsx hsx2 hN r1 r2 hd hfm hw0 hk he
  go_enter Tryz.func42,Tryz.ntmps42
  go_wp2_with (first
   | (at_lookup;go_must (refine wp_lookVN rfl _ _ rfl q.mb fm d _ HFi.out rfl rfl HM.out hI ?_))
   | (go_at_call 26;go_must (refine hWk.mono ?_;rintro e w2 ⟨rfl,rfl⟩))
   | (go_at_call 48;go_must (refine hDr.mono ?_;rintro e w2 ⟨rfl,rfl⟩))
   | (refine store_R rfl 95 _ _ rfl w.heap.size zSpot rfl rfl 95 _ HQs.out (by rw [szSp];rfl) rfl (by simp [zSpot,Value.oneCell']) ?_;intro w6 hw6)
   | fail)
  exact bodyPost_ret (v:=.tuple #[.agg zSpot,.int .i64 113]) (results_R Tryz.results42 _ _ w.heap.size _ 95 _ _ Tryz.underlying95 rfl (by rw [szSp];rfl) rfl rfl hw6.here) rfl ⟨rfl,HC1.out.trans (kt_new hw6) (fun _ _ e=>e) (fun j hj e=>by omega)⟩
 ·rw [if_neg hw0]
  obtain ⟨R1,hR1⟩:∃ y,y=(walkL s ls.dropLast 1).1:=⟨_,rfl⟩;obtain ⟨R2,hR2⟩:∃ y,y=(walkL s ls.dropLast 1).2:=⟨_,rfl⟩;rw [←hR1,←hR2] at hWk;rw [←hR2] at hw0 ⊢;have b1:(R2 == 0)=false:=beq_eq_false_iff_ne.2 hw0;rw [hw1] at HQs HC1 hWk;clear h h1 ho hl hl1 hn hE hw1 hc1 hb hnn hpos hR1 hR2 he
  go_enter Tryz.func42,Tryz.ntmps42
  go_wp2_with (first
   | (go_at_call 26;go_must (refine hWk.mono ?_;rintro e w2 ⟨rfl,rfl⟩))
   | (refine store_R rfl 95 _ _ rfl w.heap.size zSpot rfl rfl 95 _ HQs.out (by rw [szSp];rfl) rfl (by simp [zSpot,Value.oneCell']) ?_;intro w6 hw6)
   | fail)
  exact bodyPost_ret (v:=.tuple #[.agg zSpot,.int .i64 R2]) (results_R Tryz.results42 _ _ w.heap.size _ 95 _ _ Tryz.underlying95 rfl (by rw [szSp];rfl) rfl rfl hw6.here) rfl ⟨rfl,HC1.out.trans (kt_new hw6) (fun _ _ e=>e) (fun j hj e=>by omega)⟩

set_option maxHeartbeats 2000000 in
set_option maxRecDepth 100000 in
theorem wlast_good {q:PC} {s:PSt} {c:NC} (ls:List ByteArray) (a:Option Addr) (w:World) (h:IsPl w q s) (ho:OkS s) (hl:LAt w a ls) (hb:ls.length≤1000) (hn:∀ x∈ls,x.size≤1000) (hE:lastE s ls=0) (hqc:q.nc (lastD s ls)=some c) :
  Calls Tryz.prog 42 #[.pointer (some ⟨q.p,0,none⟩),.slice a ls.length ls.length] w fun e w'=>e=.returned (.tuple #[.agg #[.pointer (some ⟨c.p,0,none⟩),.string (lastN ls)],.int .i64 0])∧Chg w w' No:=by
 obtain ⟨w1,hw1⟩:∃ y,y=w.alloc (.cells zSpot 95):=⟨_,rfl⟩
 have hc1:Chg w w1 No:=by rw [hw1];exact Chg.alloc w _ No
 have HQs:Hid (w1.heap[w.heap.size]? = some (.cells zSpot 95 (0,0))):=hid (by rw [hw1];exact heap_alloc_new w _);have HC1:=hid hc1;unfold lastE at hE
 have he : ¬ ls=[]:=fun e=>by rw [if_pos e] at hE;exact absurd hE (by decide)
 rw [if_neg he] at hE;have hpos:0 < ls.length:=List.length_pos_iff.2 he;have h1:=h.call hc1
 have hcell:∃ ga,a=some ⟨ga,0,none⟩∧∀ W,Chg w W No→W.cell? ⟨ga,ls.length - 1,none⟩=some (.string (lastN ls)):=by
  rcases hl with e | ⟨g,k1,k2,k3⟩
  ·exact absurd e he
  ·refine ⟨g,k1,fun W hW => ?_⟩
   have:=k3 (ls.length - 1) (lastN ls) (getS (by omega));unfold World.cell? at this ⊢;rw [hW.block _ k2 (fun e=>e)]
   exact this
 have hl1:LAt w1 a ls:=by
  rcases hl with e | ⟨g,k1,k2,k3⟩
  ·exact .inl e
  ·exact .inr ⟨g,k1,Nat.lt_of_lt_of_le k2 hc1.size,fun j x hj=>by
    have:=k3 j x hj;unfold World.cell? at this ⊢;rw [hc1.block _ k2 (fun e=>e)]
    exact this⟩
 have hWk:=walk_any ls.dropLast a ls.length w1 h1 ho hl1.init (by rw [List.length_dropLast];omega) (fun x hx=>hn x (List.dropLast_subset _ hx));rw [List.length_dropLast] at hWk;obtain ⟨ga,rfl,hcell⟩:=hcell;obtain ⟨nm,hnm⟩:∃ y,y=lastN ls:=⟨_,rfl⟩;rw [←hnm] at hcell ⊢;obtain ⟨n,hnn⟩:∃ y,y=ls.length:=⟨_,rfl⟩;rw [←hnn] at hWk hb hpos hcell ⊢;obtain ⟨k,rfl⟩:∃ k,n=k + 1:=⟨n - 1,by omega⟩;rw [show k + 1 - 1=k by omega] at hWk hcell
 have i1:(k:Int)≤1000:=by omega
 have i0 : ¬ ((k:Int) + 1=0):=by omega
 have i2:((k:Int) + 1 == 0)=false:=beq_eq_false_iff_ne.2 i0
 have hw0:(walkL s ls.dropLast 1).2=0:=by
  by_cases e:(walkL s ls.dropLast 1).2=0
  ·exact e
  ·rw [if_neg e] at hE;exact hE
 rw [if_pos hw0] at hE;obtain ⟨c',x,hqc',hsx,hN,r1,r2⟩:=h1.at_ (walkL_some ho _ 1 ho.root hw0);have hqc2:q.nc (lastD s ls)=some c':=hqc';rw [hqc] at hqc2
 cases hqc2
 have hsx2:s.nd (lastD s ls)=some x:=hsx;rw [hsx2] at hE
 simp only at hE
 have hk:x.kind=2:=by
  by_cases e:x.kind=2
  ·exact e
  ·rw [if_neg e] at hE;exact absurd hE (by decide)
 have hDr:=isDirectory_any w1 hN;rw [decide_eq_true hk] at hDr;rw [hw0] at hWk;obtain ⟨fm,hfm⟩:∃ y,y=(fun i=>(q.nc i).map ptrN):=⟨_,rfl⟩;have HM:Hid (∀ W,Chg w W No→MapV W q.mb fm):=hid (fun W hW=>by rw [hfm];exact (h.call hW).mp);have HFi:Hid ((match fm (walkL s ls.dropLast 1).1 with | some v=>v | none=>Value.pointer none)=.pointer (some ⟨c.p,0,none⟩)):=hid (by rw [hfm];simp only [hqc',Option.map_some];rfl);obtain ⟨d,hd⟩:∃ y,y=(walkL s ls.dropLast 1).1:=⟨_,rfl⟩;rw [←hd] at hWk HFi r1 r2;have hI:I64 d:=⟨by omega,by omega⟩;have c2:=h1.c2;have HQ2:Hid (∀ W,Chg w W No→W.cell? ⟨q.p,2,none⟩=some (.map (some q.mb))):=hid (fun W hW=>(h.call hW).c2);have HCl:=hid hcell;rw [hw1] at HQs HC1 hWk hDr c2;clear h h1 ho hl hl1 hn hE hw1 hc1 hb hnn hpos hqc hqc' hsx hsx2 hN r1 r2 hd hfm hw0 hk he hcell hnm
 go_enter Tryz.func42,Tryz.ntmps42
 go_upto_region 9 with (first
  | (at_lookup;go_must (refine wp_lookVN rfl _ _ rfl q.mb fm d _ HFi.out rfl rfl (HM.out _ HC1.out) hI ?_))
  | (go_at_call 26;go_must (refine hWk.mono ?_;rintro e w2 ⟨rfl,rfl⟩))
  | (go_at_call 48;go_must (refine hDr.mono ?_;rintro e w2 ⟨rfl,rfl⟩))
  | fail)
 refine wp_region_noPanic ?_;refine wp_region_held_drew (S:=fun w'=>Chg w w' No) (by kernel_rfl) HC1.out.drew (fun hHeld => ?_);have hQ:=HQs.out;refine tV 0 37 (.pointer (some ⟨q.p,0,none⟩)) rfl (by kernel_rfl) rfl (by rfl) hHeld (fun W' hw'=>rfl) ?_;simp only [sS];refine tV 1 38 (.pointer (some ⟨q.p,0,none⟩)) rfl (by kernel_rfl) rfl (by rfl) hHeld (fun W' hw'=>by go_simp) ?_;simp only [sS];refine tV 2 39 (.pointer (some ⟨q.p,2,none⟩)) rfl (by kernel_rfl) rfl (by rfl) hHeld (fun W' hw'=>by go_simp) ?_;simp only [sS];refine tV 3 40 (.map (some q.mb)) rfl (by kernel_rfl) rfl (by rfl) hHeld (fun W' hw'=>by have hc:=HQ2.out W' hw';go_simp) ?_;simp only [sS];refine tV 4 41 (.int .i64 d) rfl (by kernel_rfl) rfl (by rfl) hHeld (fun W' hw'=>rfl) ?_;simp only [sS];refine tV 5 42 (.pointer (some ⟨c.p,0,none⟩)) rfl (by kernel_rfl) rfl (by rfl) hHeld (fun W' hw'=>lookN_run (.tmp 40) (.tmp 41) rfl q.mb fm d _ HFi.out rfl rfl (HM.out W' hw') hI) ?_;simp only [sS];refine tV 6 43 (.slice (some ⟨ga,0,none⟩) (k + 1) (k + 1)) rfl (by kernel_rfl) rfl (by rfl) hHeld (fun W' hw'=>rfl) ?_;simp only [sS];refine tV 7 44 (.int .i64 (k:Int)) rfl (by kernel_rfl) rfl (by rfl) hHeld (fun W' hw'=>rfl) ?_;simp only [sS];refine tV 8 45 (.pointer (some ⟨ga,k,none⟩)) rfl (by kernel_rfl) rfl (by rfl) hHeld (fun W' hw'=>by go_simp;intro hbad;omega) ?_;simp only [sS];refine tV 9 46 (.string nm) rfl (by kernel_rfl) rfl (by rfl) hHeld (fun W' hw'=>by have hc:=HCl.out W' hw';go_simp) ?_;simp only [sS];refine tV 10 47 (.agg #[.pointer (some ⟨c.p,0,none⟩),.string nm]) rfl (by kernel_rfl) rfl (by rfl) hHeld (fun W' hw'=>by go_simp) ?_;simp only [sS];refine step1 11 (by kernel_rfl) ?_;refine stStoreR 11 95 (.tmp 4) (.tmp 47) w.heap.size #[.pointer (some ⟨c.p,0,none⟩),.string nm] 95 zSpot rfl rfl (by rfl) rfl rfl rfl hQ (by rw [szSp];rfl) rfl (by simp [Value.oneCell']) ?_
 intro wc hwc
 have hFin:Chg w wc No:=hHeld.trans (kt_new hwc) (fun _ _ e=>e) (fun j hj e=>by omega);refine ⟨hFin,?_⟩;refine tV 12 5 (.int .i64 0) rfl (by kernel_rfl) rfl (by rfl) hFin (fun W' hw'=>by go_simp) ?_;simp only [sS];refine wpAnyH_done (by kernel_rfl) ?_ _;refine NoPanic.normal ?_;have HFin:=hid (And.intro hFin hwc.here);clear hHeld hQ hwc hFin
 go_wp2_with fail
 exact bodyPost_ret (v:=.tuple #[.agg #[.pointer (some ⟨c.p,0,none⟩),.string nm],.int .i64 0]) (results_R Tryz.results42 _ _ w.heap.size _ 95 _ _ Tryz.underlying95 rfl (by rw [szSp];rfl) rfl rfl HFin.out.2) rfl ⟨rfl,HFin.out.1⟩
end Go.Proofs.YtmgfilacepnjlaaGreatDoor

namespace Go.Proofs.YtmgfilacepnjlaaGreatDoor
open Go.RowKit

def markV (b:Bool) (f one:Int):Int:=if b then bits .or .i64 f one else f

set_option maxHeartbeats 1000000 in
set_option maxRecDepth 100000 in
theorem mark_any (b:Bool) (g:Nat) (one f:Int) (w:World) (h:w.heap[g]? = some (.cells #[.int .i64 f] 89 (0,0))):Calls Tryz.prog 60 #[.int .i64 one,.bool b,.pointer (some ⟨g,0,none⟩)] w fun e w'=>e=.returned (.tuple #[])∧w'.heap[g]? = some (.cells #[.int .i64 (markV b f one)] 89 (0,0))∧Chg w w' (· = g):=by
 cases b with
 | false =>
  have H:=hid h;clear h
  go_enter Tryz.func60,Tryz.ntmps60
  go_wp2_with fail
  go_end0
  exact ⟨rfl,H.out,Chg.refl _ _⟩
 | true =>
  have hc:w.cell? ⟨g,0,none⟩=some (.int .i64 f):=(cell_of_row _ _ _ _ _ _ h).trans rfl;have hf:w.frozen? ⟨g,0,none⟩=false:=frozen_of_row _ _ _ _ _ h;have H:=hid h;clear h
  go_enter Tryz.func60,Tryz.ntmps60
  go_wp2_with fail
  go_end0
  exact ⟨rfl,heap_setCell_same _ _ _ _ _ _ H.out,Chg.setCell⟩
def opA (kind:Int) (path tto:ByteArray) (off len:Int) (da:Option Addr) (dl dc:Nat) (made pick:Int):Array Value:=#[.int .i64 kind,.string path,.string tto,.int .i64 off,.int .i64 len,.slice da dl dc,.int .i64 made,.int .i64 pick]
def givF (path tto:ByteArray) (off len:Int) (dl:Nat) (made pick:Int):Int :=
 markV (!decide (pick=0)) (markV (!decide (made=0)) (markV (decide (0 < dl)) (markV (!decide (len=0)) (markV (!decide (off=0)) (markV (!tto.toList.isEmpty) (markV (!path.toList.isEmpty) 0 1) 2) 4) 8) 16) 32) 64

structure GV (w W:World) (A:Array Value) (f:Int):Prop where
 op:W.heap[w.heap.size]? = some (.cells A 34 (0,0))
 f:W.heap[w.heap.size + 1]? = some (.cells #[.int .i64 f] 89 (0,0))
 c:Chg w W No
theorem GV.mark {w W W':World} {A:Array Value} {f f':Int} (h:GV w W A f) (h1:W'.heap[w.heap.size + 1]? = some (.cells #[.int .i64 f'] 89 (0,0))) (hc:Chg W W' (· = w.heap.size + 1)):GV w W' A f' :=
 ⟨hc.keep h.op (by omega),h1,h.c.trans hc (fun _ _ e=>e) (fun j hj e=>by omega)⟩
theorem GV.cell {w W:World} {A:Array Value} {f:Int} (h:GV w W A f) {k:Nat} {v:Value} (hv:A[k]? = some v):W.cell? ⟨w.heap.size,k,none⟩=some v:=by rw [cell_of_row _ _ _ _ _ _ h.op];exact hv

set_option maxHeartbeats 2000000 in
set_option maxRecDepth 100000 in
theorem given_any (kind:Int) (path tto:ByteArray) (off len:Int) (da:Option Addr) (dl dc:Nat) (made pick:Int) (w:World) :
  Calls Tryz.prog 40 #[.agg (opA kind path tto off len da dl dc made pick)] w fun e w'=>e=.returned (.int .i64 (givF path tto off len dl made pick))∧Chg w w' No:=by
 have hmf:∀ (fn:Fn) (first cap:Array Value) (w:World),(Instr.makeFunc fn first cap).run Tryz.prog w=.ok (.func fn first cap) w:=fun _ _ _ _=>rfl
 obtain ⟨R,hR⟩:∃ y,y=givF path tto off len dl made pick:=⟨_,rfl⟩;rw [←hR];have HR:=hid hR;clear hR;unfold opA;obtain ⟨W0,hW0⟩:∃ y,y=(w.alloc (.cells #[.int .i64 kind,.string path,.string tto,.int .i64 off,.int .i64 len,.slice da dl dc,.int .i64 made,.int .i64 pick] 34)).alloc (.cells #[.int .i64 0] 89):=⟨_,rfl⟩
 have HG3:Hid (GV w W0 #[.int .i64 kind,.string path,.string tto,.int .i64 off,.int .i64 len,.slice da dl dc,.int .i64 made,.int .i64 pick] 0):=hid (by
  rw [hW0];refine ⟨(Chg.alloc _ _ No).keep (heap_alloc_new w _) (fun e=>e),?_,(Chg.alloc w _ No).tr (Chg.alloc _ _ No)⟩;have:=heap_alloc_new (w.alloc (.cells #[.int .i64 kind,.string path,.string tto,.int .i64 off,.int .i64 len,.slice da dl dc,.int .i64 made,.int .i64 pick] 34)) (.cells #[.int .i64 0] 89);rw [show (w.alloc (.cells #[.int .i64 kind,.string path,.string tto,.int .i64 off,.int .i64 len,.slice da dl dc,.int .i64 made,.int .i64 pick] 34)).heap.size=w.heap.size + 1 by simp] at this
  exact this)
 go_enter Tryz.func40,Tryz.ntmps40
 go_upto_region 3 with fail
 rw [←hW0];clear hW0 hmf;have q3:W0.cell? ⟨w.heap.size,1,none⟩=some (.string path):=HG3.out.cell rfl;have m3:=mark_any (!path.toList.isEmpty) (w.heap.size + 1) 1 0 W0 HG3.out.f;obtain ⟨f4,hf4⟩:∃ y,y=markV (!path.toList.isEmpty) 0 1:=⟨_,rfl⟩;rw [←hf4] at m3;have HF4:=hid hf4;clear hf4
 go_upto_region 4 with (first
  | (go_at_call 60;go_must (refine (m3).mono ?_;rintro e W4 ⟨rfl,k1,k2⟩;have HG4:=hid (HG3.out.mark k1 k2);clear k1 k2))
  | fail)
 clear q3 m3 HG3;have q4:W4.cell? ⟨w.heap.size,2,none⟩=some (.string tto):=HG4.out.cell rfl;have m4:=mark_any (!tto.toList.isEmpty) (w.heap.size + 1) 2 f4 W4 HG4.out.f;obtain ⟨f5,hf5⟩:∃ y,y=markV (!tto.toList.isEmpty) f4 2:=⟨_,rfl⟩;rw [←hf5] at m4;have HF5:=hid hf5;clear hf5
 go_upto_region 5 with (first
  | (go_at_call 60;go_must (refine (m4).mono ?_;rintro e W5 ⟨rfl,k1,k2⟩;have HG5:=hid (HG4.out.mark k1 k2);clear k1 k2))
  | fail)
 clear q4 m4 HG4;have q5:W5.cell? ⟨w.heap.size,3,none⟩=some (.int .i64 off):=HG5.out.cell rfl;have m5:=mark_any (!decide (off=0)) (w.heap.size + 1) 4 f5 W5 HG5.out.f;obtain ⟨f6,hf6⟩:∃ y,y=markV (!decide (off=0)) f5 4:=⟨_,rfl⟩;rw [←hf6] at m5;have HF6:=hid hf6;clear hf6
 go_upto_region 6 with (first
  | (go_at_call 60;go_must (refine (m5).mono ?_;rintro e W6 ⟨rfl,k1,k2⟩;have HG6:=hid (HG5.out.mark k1 k2);clear k1 k2))
  | fail)
 clear q5 m5 HG5;have q6:W6.cell? ⟨w.heap.size,4,none⟩=some (.int .i64 len):=HG6.out.cell rfl;have m6:=mark_any (!decide (len=0)) (w.heap.size + 1) 8 f6 W6 HG6.out.f;obtain ⟨f7,hf7⟩:∃ y,y=markV (!decide (len=0)) f6 8:=⟨_,rfl⟩;rw [←hf7] at m6;have HF7:=hid hf7;clear hf7
 go_upto_region 7 with (first
  | (go_at_call 60;go_must (refine (m6).mono ?_;rintro e W7 ⟨rfl,k1,k2⟩;have HG7:=hid (HG6.out.mark k1 k2);clear k1 k2))
  | fail)
 clear q6 m6 HG6;have q7:W7.cell? ⟨w.heap.size,5,none⟩=some (.slice da dl dc):=HG7.out.cell rfl;have m7:=mark_any (decide (0 < dl)) (w.heap.size + 1) 16 f7 W7 HG7.out.f;obtain ⟨f8,hf8⟩:∃ y,y=markV (decide (0 < dl)) f7 16:=⟨_,rfl⟩;rw [←hf8] at m7;have HF8:=hid hf8;clear hf8
 go_upto_region 8 with (first
  | (go_at_call 60;go_must (refine (m7).mono ?_;rintro e W8 ⟨rfl,k1,k2⟩;have HG8:=hid (HG7.out.mark k1 k2);clear k1 k2))
  | fail)
 clear q7 m7 HG7;have q8:W8.cell? ⟨w.heap.size,6,none⟩=some (.int .i64 made):=HG8.out.cell rfl;have m8:=mark_any (!decide (made=0)) (w.heap.size + 1) 32 f8 W8 HG8.out.f;obtain ⟨f9,hf9⟩:∃ y,y=markV (!decide (made=0)) f8 32:=⟨_,rfl⟩;rw [←hf9] at m8;have HF9:=hid hf9;clear hf9
 go_upto_region 9 with (first
  | (go_at_call 60;go_must (refine (m8).mono ?_;rintro e W9 ⟨rfl,k1,k2⟩;have HG9:=hid (HG8.out.mark k1 k2);clear k1 k2))
  | fail)
 clear q8 m8 HG8;have q9:W9.cell? ⟨w.heap.size,7,none⟩=some (.int .i64 pick):=HG9.out.cell rfl;have m9:=mark_any (!decide (pick=0)) (w.heap.size + 1) 64 f9 W9 HG9.out.f;obtain ⟨f10,hf10⟩:∃ y,y=markV (!decide (pick=0)) f9 64:=⟨_,rfl⟩;rw [←hf10] at m9;have HF10:=hid hf10;clear hf10
 go_upto_region 10 with (first
  | (go_at_call 60;go_must (refine (m9).mono ?_;rintro e W10 ⟨rfl,k1,k2⟩;have HG10:=hid (HG9.out.mark k1 k2);clear k1 k2))
  | fail)
 clear q9 m9 HG9;have q:W10.cell? ⟨w.heap.size + 1,0,none⟩=some (.int .i64 f10):=(cell_of_row _ _ _ _ _ _ HG10.out.f).trans rfl
 have e:f10=R:=by rw [HF10.out,HF9.out,HF8.out,HF7.out,HF6.out,HF5.out,HF4.out,HR.out];rfl
 subst e
 go_wp2_with fail
 go_ret
 exact ⟨rfl,HG10.out.c⟩
end Go.Proofs.YtmgfilacepnjlaaGreatDoor

namespace Go.Proofs.YtmgfilacepnjlaaGreatDoor
open Go.RowKit

def usedL:List Int:=[0,33,33,3,1,1,3,21,5,13,1,1,0,1,64]
def UB (w:World):Prop:=0 < w.heap.size∧∀ k:Nat,k < 15→w.cell? ⟨0,k,none⟩=some (.int .i64 (usedL.getD k 0))
theorem UB.keep {w w':World} {ks:Nat→Prop} (h:UB w) (hc:Chg w w' ks) (hn : ¬ ks 0):UB w':=by
 refine ⟨Nat.lt_of_lt_of_le h.1 hc.size,fun k hk => ?_⟩;have:=h.2 k hk;unfold World.cell? at this ⊢;rw [hc.block _ h.1 hn]
 exact this
theorem szOp:(Tryz.prog.info? 34).map (·.size)=some 8:=by kernel_rfl

set_option maxHeartbeats 2000000 in
set_option maxRecDepth 100000 in
theorem mayBe_ok (kk:Nat) (path tto:ByteArray) (off len:Int) (da:Option Addr) (dl dc:Nat) (made pick:Int) (w:World) (hu:UB w) (h1:1≤kk) (h2:kk≤14) (hz:bits .andNot .i64 (givF path tto off len dl made pick) (usedL.getD kk 0)=0) (hm0:0≤made) (hm1:made≤1099511627776) :
  Calls Tryz.prog 19 #[.agg (opA (kk:Nat) path tto off len da dl dc made pick)] w fun e w'=>e=.returned (.bool true)∧Chg w w' No:=by
 obtain ⟨w1,hw1⟩:∃ y,y=w.alloc (.cells (opA (kk:Nat) path tto off len da dl dc made pick) 34):=⟨_,rfl⟩
 have hc1:Chg w w1 No:=by rw [hw1];exact Chg.alloc w _ No
 have hop:w1.heap[w.heap.size]? = some (.cells (opA (kk:Nat) path tto off len da dl dc made pick) 34 (0,0)):=by rw [hw1];exact heap_alloc_new w _
 have HOp:Hid (∀ W,Chg w1 W No→W.heap[w.heap.size]? = some (.cells #[.int .i64 (kk:Nat),.string path,.string tto,.int .i64 off,.int .i64 len,.slice da dl dc,.int .i64 made,.int .i64 pick] 34 (0,0))):=hid (fun W hW=>hW.keep hop (fun e=>e));have HQ0:Hid (∀ W,Chg w1 W No→W.cell? ⟨w.heap.size,0,none⟩=some (.int .i64 (kk:Nat))):=hid (fun W hW=>(cell_of_row _ _ _ _ _ _ (HOp.out W hW)).trans rfl);have HQ6:Hid (∀ W,Chg w1 W No→W.cell? ⟨w.heap.size,6,none⟩=some (.int .i64 made)):=hid (fun W hW=>(cell_of_row _ _ _ _ _ _ (HOp.out W hW)).trans rfl);have HU:Hid (∀ W,Chg w1 W No→W.cell? ⟨0,kk,none⟩=some (.int .i64 (usedL.getD kk 0))):=hid (fun W hW=>((hu.keep hc1 (fun e=>e)).keep hW (fun e=>e)).2 kk (by omega));have HGv:Hid (∀ W,Calls Tryz.prog 40 #[.agg #[.int .i64 (kk:Nat),.string path,.string tto,.int .i64 off,.int .i64 len,.slice da dl dc,.int .i64 made,.int .i64 pick]] W fun e w'=>e=.returned (.int .i64 (givF path tto off len dl made pick))∧Chg W w' No):=hid (fun W=>given_any _ _ _ _ _ _ _ _ _ _ W);have q0:=HQ0.out w1 (Chg.refl _ _);obtain ⟨gf,hgf⟩:∃ y,y=givF path tto off len dl made pick:=⟨_,rfl⟩;rw [←hgf] at hz HGv;obtain ⟨uk,huk⟩:∃ y,y=usedL.getD kk 0:=⟨_,rfl⟩;rw [←huk] at hz HU;have HC1:=hid hc1
 have k1 : ¬ (kk:Int) < 1:=by omega
 have k2 : ¬ 14 < (kk:Int):=by omega
 have k3:(kk:Int)≤14:=by omega
 unfold opA at hw1 ⊢;rw [hw1] at HOp HQ0 HQ6 HU q0 HC1;clear hop hc1 hw1 hu hgf huk
 go_enter Tryz.func19,Tryz.ntmps19
 go_upto_region 3 with fail
 refine wp_region_noPanic ?_;refine wp_region_held_drew (S:=fun w'=>Chg (w.alloc (.cells #[.int .i64 (kk:Nat),.string path,.string tto,.int .i64 off,.int .i64 len,.slice da dl dc,.int .i64 made,.int .i64 pick] 34)) w' No) (by kernel_rfl) (Chg.refl _ _).drew (fun hHeld => ?_);refine takeR 0 11 34 (.tmp 1) w.heap.size 34 #[.int .i64 (kk:Nat),.string path,.string tto,.int .i64 off,.int .i64 len,.slice da dl dc,.int .i64 made,.int .i64 pick] _ rfl (by kernel_rfl) (by kernel_rfl) (by kernel_rfl) rfl rfl rfl Tryz.underlying34 rfl (by rw [szOp];rfl) (by rfl) (fun _ _ _ h=>h) hHeld (fun W' hw'=>HOp.out W' hw') ?_;simp only [sS];refine tV 2 13 (.pointer (some ⟨w.heap.size,0,none⟩)) rfl (by kernel_rfl) rfl (by rfl) hHeld (fun W' hw'=>by go_simp) ?_;simp only [sS];refine tV 3 14 (.int .i64 (kk:Nat)) rfl (by kernel_rfl) rfl (by rfl) hHeld (fun W' hw'=>by have hc:=HQ0.out W' hw';go_simp) ?_;simp only [sS];refine tV 4 15 (.pointer (some ⟨0,kk,none⟩)) rfl (by kernel_rfl) rfl (by rfl) hHeld (fun W' hw'=>by go_simp;intro hbad;omega) ?_;simp only [sS];refine tV 5 16 (.int .i64 uk) rfl (by kernel_rfl) rfl (by rfl) hHeld (fun W' hw'=>by have hc:=HU.out W' hw';go_simp) ?_;simp only [sS];refine step1 1 (by kernel_rfl) ?_;refine stCall 1 12 40 #[.agg #[.int .i64 (kk:Nat),.string path,.string tto,.int .i64 off,.int .i64 len,.slice da dl dc,.int .i64 made,.int .i64 pick]] _ rfl rfl (by rfl) (by go_simp) (HGv.out _) ?_
 rintro e w5 ⟨rfl,hc5⟩
 have hH5:Chg (w.alloc (.cells #[.int .i64 (kk:Nat),.string path,.string tto,.int .i64 off,.int .i64 len,.slice da dl dc,.int .i64 made,.int .i64 pick] 34)) w5 No:=hHeld.tr hc5;refine ⟨_,rfl,hH5,?_⟩;simp only [sS]
 refine tV 6 17 (.int .i64 0) rfl (by kernel_rfl) rfl (by rfl) hH5 (fun W' hw'=>by go_simp <;> exact hz) ?_
 simp only [sS];refine tV 7 18 (.bool true) rfl (by kernel_rfl) rfl (by rfl) hH5 (fun W' hw'=>by go_simp) ?_;simp only [sS];refine tV 8 19 (.bool true) rfl (by kernel_rfl) rfl (by rfl) hH5 (fun W' hw'=>rfl) ?_;simp only [sS];refine tV 9 20 (.pointer (some ⟨w.heap.size,6,none⟩)) rfl (by kernel_rfl) rfl (by rfl) hH5 (fun W' hw'=>by go_simp) ?_;simp only [sS];refine tV 10 21 (.int .i64 made) rfl (by kernel_rfl) rfl (by rfl) hH5 (fun W' hw'=>by have hc:=HQ6.out W' hw';go_simp) ?_;simp only [sS];refine tV 11 22 (.bool true) rfl (by kernel_rfl) rfl (by rfl) hH5 (fun W' hw'=>by go_simp) ?_;simp only [sS];refine tV 12 23 (.bool true) rfl (by kernel_rfl) rfl (by rfl) hH5 (fun W' hw'=>by go_simp) ?_;simp only [sS];refine tV 13 24 (.bool true) rfl (by kernel_rfl) rfl (by rfl) hH5 (fun W' hw'=>rfl) ?_;simp only [sS];refine tV 14 25 (.pointer (some ⟨w.heap.size,6,none⟩)) rfl (by kernel_rfl) rfl (by rfl) hH5 (fun W' hw'=>by go_simp) ?_;simp only [sS];refine tV 15 26 (.int .i64 made) rfl (by kernel_rfl) rfl (by rfl) hH5 (fun W' hw'=>by have hc:=HQ6.out W' hw';go_simp) ?_;simp only [sS];refine tV 16 27 (.bool true) rfl (by kernel_rfl) rfl (by rfl) hH5 (fun W' hw'=>by go_simp) ?_;simp only [sS];refine tV 17 28 (.bool true) rfl (by kernel_rfl) rfl (by rfl) hH5 (fun W' hw'=>by go_simp) ?_;simp only [sS];refine tV 18 2 (.bool true) rfl (by kernel_rfl) rfl (by rfl) hH5 (fun W' hw'=>rfl) ?_;simp only [sS];refine wpAnyH_done (by kernel_rfl) ?_ _;refine NoPanic.normal ?_;have HFin:Hid (Chg w w5 No):=hid (HC1.out.tr hH5);clear hHeld hc5 hH5
 go_wp2_with fail
 go_ret
 exact ⟨rfl,HFin.out⟩
end Go.Proofs.YtmgfilacepnjlaaGreatDoor
