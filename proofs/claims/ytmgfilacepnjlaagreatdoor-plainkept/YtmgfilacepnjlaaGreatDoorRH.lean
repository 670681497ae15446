/-
 package plain: rename (refusals).
-/
import Derived.Test.YtmgfilacepnjlaaGreatDoorRG
import Derived.LaidEql
namespace Go.Proofs.YtmgfilacepnjlaaGreatDoor
open Go.RowKit

set_option linter.unusedVariables false
theorem IsPl.pne {w:World} {q:PC} {s:PSt} (h:IsPl w q s) {i j:Int} {c d:NC} (hc:q.nc i=some c) (hd:q.nc j=some d) (hne:i≠j) : ¬ c.p=d.p:=fun e=>h.ap i j c d hc hd hne c.p (.inl rfl) (.inl e)
theorem eqFields_at (d : Nat) (xs ys : Array Value) (E : Field → Bool) (w : World) : ∀ (fs : List Field), (∀ f ∈ fs, f.name ≠ "_" ∧ ∃ a b, (part f.type xs f.offset).run Tryz.prog w = .ok a w ∧ (part f.type ys f.offset).run Tryz.prog w = .ok b w ∧ (Op.equalIn d f.type a b).run Tryz.prog w = .ok (E f) w) →
  (Op.eqFields d xs ys fs).run Tryz.prog w=.ok (fs.all E) w
 | [],_=>by simp [Op.eqFields]
 | f :: fs,h=>by
  obtain ⟨hn,a,b,h1,h2,h3⟩:=h f (by simp)
  simp only [Op.eqFields,hn,ne_eq,not_false_eq_true,if_true,Sem.run_bind,h1,h2,h3,Result.andThen_ok]
  cases hE:E f
  ·simp [hE]
  ·simp only [List.all_cons,hE,Bool.true_and,Bool.not_true,Bool.false_eq_true,if_false]
   exact eqFields_at d xs ys E w fs fun g hg=>h g (by simp [hg])
theorem ptr_eq {P:Program} (w:World) (d n:Nat) (t e:TypeId) (p1 p2:Nat) (h:P.underlying t=some (.pointer e)) (hs:(sizeOf e).run P w=.ok (n + 1) w) {A1 A2:Array Value} {T1 T2:TypeId} (h1:w.heap[p1]? = some (.cells A1 T1 (0,0))) (h2:w.heap[p2]? = some (.cells A2 T2 (0,0))) :
  (Op.equalIn (d + 1) t (.pointer (some ⟨p1,0,none⟩)) (.pointer (some ⟨p2,0,none⟩))).run P w=.ok (decide (p1=p2)) w:=by
 by_cases e:p1=p2
 ·subst e
  simp [Op.equalIn,run_underlying h,hs,sameAddr]
 ·simp [Op.equalIn,run_underlying h,hs,e,run_sameAddr_other (P:=P) w (a:=⟨p1,0,none⟩) (b:=⟨p2,0,none⟩) (fun q=>e (congrArg Addr.block q)) h1 h2]
theorem sz_node (w:World):(sizeOf 106).run Tryz.prog w=.ok (6 + 1) w:=by kernel_rfl
set_option maxRecDepth 100000 in
theorem spot_eq (p1 p2:Nat) (n1 n2:ByteArray) (W:World) {A1 A2:Array Value} {T1 T2:TypeId} (h1:W.heap[p1]? = some (.cells A1 T1 (0,0))) (h2:W.heap[p2]? = some (.cells A2 T2 (0,0))):(Op.equalIn 10000 95 (.agg #[.pointer (some ⟨p1,0,none⟩),.string n1]) (.agg #[.pointer (some ⟨p2,0,none⟩),.string n2])).run Tryz.prog W=.ok (decide (p1=p2∧n1=n2)) W:=by
 have hfm:((Tryz.prog.fieldsOf 95).toList.map fun f=>(f.type,f.offset))=[(87,0),(9,1)]:=by kernel_rfl
 have hnm : ((Tryz.prog.fieldsOf 95).toList.all fun f => f.name != "_") = true := by kernel_rfl
 obtain ⟨E',hE'⟩:∃ E:Nat × Nat→Bool,E=fun p=>if p.2=0 then decide (p1=p2) else decide (n1=n2):=⟨_,rfl⟩
 rw [run_equalIn_struct W 9999 95 _ _ (by kernel_rfl) (by kernel_rfl),eqFields_at 9999 _ _ (fun f=>E' (f.type,f.offset)) W]
 ·have e:((Tryz.prog.fieldsOf 95).toList.all fun f=>E' (f.type,f.offset))=(((Tryz.prog.fieldsOf 95).toList.map fun f=>(f.type,f.offset)).all E'):=by rw [List.all_map];rfl
  rw [e,hfm,hE']
  congr 1
  rw [Bool.eq_iff_iff]
  simp
 ·intro f hf
  refine ⟨by simpa using List.all_eq_true.1 hnm f hf,?_⟩;have hm:(f.type,f.offset)∈((Tryz.prog.fieldsOf 95).toList.map fun f=>(f.type,f.offset)):=List.mem_map.2 ⟨f,hf,rfl⟩;rw [hfm] at hm
  simp only [List.mem_cons,Prod.mk.injEq,List.not_mem_nil,or_false] at hm
  rcases hm with ⟨q1,q2⟩ | ⟨q1,q2⟩
  ·rw [q1,q2,hE']
   exact ⟨.pointer (some ⟨p1,0,none⟩),.pointer (some ⟨p2,0,none⟩),by kernel_rfl,by kernel_rfl,ptr_eq W 9998 6 87 106 p1 p2 Tryz.underlying87 (sz_node W) h1 h2⟩
  ·rw [q1,q2,hE']
   refine ⟨.string n1,.string n2,by kernel_rfl,by kernel_rfl,?_⟩;rw [run_equalIn_string W 9998 9 n1 n2 Tryz.underlying9]
   congr 1
   show (n1.toList == n2.toList)=decide (n1=n2)
   by_cases e:n1=n2
   ·rw [decide_eq_true e,e];simp
   ·rw [decide_eq_false e]
    exact beq_eq_false_iff_ne.2 (fun h=>e (data_inj (by rw [←tl,←tl];exact h)))
section
variable {ops:Array Oper} {rest:List Oper} {o:Oper} {a:Act} {w:World} {Q:Exit→Act→World→Prop}
theorem eql_W (hw:Region.wanted o (yielded ops a.tmps)=true) (t:TypeId) (x y:Operand) (ho:o.op=.binOp .eql t x y t) (c c':Array Value) (b:Bool) (hx:a.eval x=.agg c) (hy:a.eval y=.agg c')
  (hq:(Op.equalIn 10000 t (.agg c) (.agg c')).run Tryz.prog w=.ok b w) (hg:Tryz.prog.eqGuardType Tryz.prog.depth t=false)
  (h:wpList Tryz.prog ops Q rest (a.put o.dst (.bool b)) w):wpList Tryz.prog ops Q (o :: rest) a w :=
 wpList_want hw fun _ hK=>by
  unfold Oper.wp execOp
  simp only [ho,hx,hy,Sem.run_bind,run_eqGuard_agg _ _ _ _ _ _ _ hg,run_eql_struct,hq,Result.andThen_ok,Sem.run_pure]
  exact hK _ _ h
end
section
variable {ops:Array Oper} {rest:List Oper} {o:Oper} {a:Act} {Q:Exit→Act→World→Prop} {w:World}
theorem wp_lookW (hw:Region.wanted o (yielded ops a.tmps)=true) (m x:Operand) (hop:o.op=Op.lookup 80 m x false) (b:Nat) (f:Int→Option Value) (k:Int) (c:Value) (hc:(match f k with | some v=>v | none=>.pointer none)=c) (hm:a.eval m=.map (some b)) (hx:a.eval x=.int .i64 k)
  (h:MapV w b f) (hk:I64 k) (hK:wpList Tryz.prog ops Q rest (a.put o.dst c) w):wpList Tryz.prog ops Q (o :: rest) a w :=
 wpList_want hw fun _ hK'=>by
  unfold Oper.wp;rw [lookN_run m x hop b f k c hc hm hx h hk]
  exact hK' _ _ hK
end
set_option maxHeartbeats 3000000 in
set_option maxRecDepth 100000 in
theorem rename_bad1 {q:PC} {s:PSt} (ls ts:List ByteArray) (a b:Option Addr) (w:World) (h:IsPl w q s) (ho:OkS s) (hl:LAt w a ls) (hb:ls.length≤1000) (hn:∀ x∈ls,x.size≤1000) (hlt:LAt w b ts) (hbt:ts.length≤1000) (hnt:∀ x∈ts,x.size≤1000) (hE:lastE s ls≠0) :
  Calls Tryz.prog 25 #[.pointer (some ⟨q.p,0,none⟩),.slice a ls.length ls.length,.slice b ts.length ts.length] w fun e w'=>e=.returned (.int .i64 (lastE s ls))∧Chg w w' No:=by
 have hL1:=wlast_bad ls a w h ho hl hb hn hE;obtain ⟨E,hEE⟩:∃ y,y=lastE s ls:=⟨_,rfl⟩;rw [←hEE] at hL1 hE ⊢;have b1:(E == 0)=false:=beq_eq_false_iff_ne.2 hE;obtain ⟨n,hnn⟩:∃ y,y=ls.length:=⟨_,rfl⟩;obtain ⟨m,hmm⟩:∃ y,y=ts.length:=⟨_,rfl⟩;rw [←hnn] at hL1;rw [←hnn,←hmm];clear h ho hl hb hn hlt hbt hnt hEE hnn hmm
 go_enter Tryz.func25,Tryz.ntmps25
 go_wp2_with (first
  | (go_at_call 42;go_must (refine hL1.mono ?_;rintro e w12 ⟨rfl,hc2⟩;have HC12:=hid hc2;clear hc2))
  | (refine store_R rfl 95 _ _ rfl w12.heap.size zSpot rfl rfl 95 _ (heap_alloc_new _ _) (by rw [szSp];rfl) rfl (by simp [zSpot,Value.oneCell']) ?_;intro w13 hw13)
  | fail)
 go_ret
 exact ⟨rfl,(HC12.out.tr (Chg.alloc w12 (.cells zSpot 95) No)).trans (kt_new hw13) (fun _ _ e=>e) (fun j hj e=>by have:=HC12.out.size;omega)⟩
set_option maxHeartbeats 3000000 in
set_option maxRecDepth 100000 in
theorem rename_bad2 {q:PC} {s:PSt} (ls ts:List ByteArray) (a b:Option Addr) (w:World) (h:IsPl w q s) (ho:OkS s) (hl:LAt w a ls) (hb:ls.length≤1000) (hn:∀ x∈ls,x.size≤1000) (hlt:LAt w b ts) (hbt:ts.length≤1000) (hnt:∀ x∈ts,x.size≤1000) (hE1:lastE s ls=0) (hE:lastE s ts≠0) :
  Calls Tryz.prog 25 #[.pointer (some ⟨q.p,0,none⟩),.slice a ls.length ls.length,.slice b ts.length ts.length] w fun e w'=>e=.returned (.int .i64 (lastE s ts))∧Chg w w' No:=by
 obtain ⟨x1,hx1,hkx1⟩:=lastE_dir hE1;obtain ⟨c1,hq1,hN1⟩:=h.node hx1;have hs1:=lastN_size hn;have hL1:=wlast_good ls a w h ho hl hb hn hE1 hq1;have HL2:Hid (∀ W,Chg w W No→Calls Tryz.prog 42 #[.pointer (some ⟨q.p,0,none⟩),.slice b ts.length ts.length] W fun e w'=>e=.returned (.tuple #[.agg zSpot,.int .i64 (lastE s ts)])∧Chg W w' No):=hid (fun W hW=>wlast_bad ts b W (h.call hW) ho (hlt.call hW) hbt hnt hE);obtain ⟨E,hEE⟩:∃ y,y=lastE s ts:=⟨_,rfl⟩;rw [←hEE] at HL2 hE ⊢;have b1:(E == 0)=false:=beq_eq_false_iff_ne.2 hE;obtain ⟨n1,hn1⟩:∃ y,y=lastN ls:=⟨_,rfl⟩;obtain ⟨n2,hn2⟩:∃ y,y=lastN ts:=⟨_,rfl⟩;obtain ⟨n,hnn⟩:∃ y,y=ls.length:=⟨_,rfl⟩;obtain ⟨m,hmm⟩:∃ y,y=ts.length:=⟨_,rfl⟩;rw [←hn1,←hnn] at hL1;rw [←hmm] at HL2;rw [←hnn,←hmm];clear h ho hl hb hn hlt hbt hnt hE1 hx1 hq1 hN1 hs1 hn1 hn2 hnn hmm hkx1 hEE
 go_enter Tryz.func25,Tryz.ntmps25
 go_upto_region 4 with (first
  | (go_at_call 42;go_must (refine hL1.mono ?_;rintro e w12 ⟨rfl,hc2⟩;have HC12:=hid hc2;clear hc2))
  | (refine store_R rfl 95 _ _ rfl w12.heap.size #[.pointer (some ⟨c1.p,0,none⟩),.string n1] rfl rfl 95 _ (heap_alloc_new _ _) (by rw [szSp];rfl) rfl (by simp [Value.oneCell']) ?_;intro w13 hw13)
  | fail)
 have h13:Chg w12 w13 No:=(Chg.alloc w12 _ No).trans (kt_new hw13) (fun _ _ e=>e) (fun j hj e=>by omega);have HC13:=hid (HC12.out.tr h13);obtain ⟨ga,hga⟩:∃ y,y=w12.heap.size:=⟨_,rfl⟩;have HGa:Hid (w13.heap[ga]? = some (.cells #[.pointer (some ⟨c1.p,0,none⟩),.string n1] 95 (0,0))):=hid (by rw [hga];exact hw13.here);rw [←hga];clear hga hw13 h13 hL1 HC12;have hL2:=HL2.out w13 HC13.out
 go_wp2_with (first
  | (go_at_call 42;go_must (refine hL2.mono ?_;rintro e w22 ⟨rfl,hc2⟩;have HC22:=hid hc2;clear hc2))
  | (refine store_R rfl 95 _ _ rfl w22.heap.size zSpot rfl rfl 95 _ (heap_alloc_new _ _) (by rw [szSp];rfl) rfl (by simp [zSpot,Value.oneCell']) ?_;intro w23 hw23)
  | fail)
 go_ret
 exact ⟨rfl,((HC13.out.tr HC22.out).tr (Chg.alloc w22 (.cells zSpot 95) No)).trans (kt_new hw23) (fun _ _ e=>e) (fun j hj e=>by have:=(HC13.out.tr HC22.out).size;omega)⟩
set_option maxHeartbeats 3000000 in
set_option maxRecDepth 100000 in
theorem rename_none {q:PC} {s:PSt} (ls ts:List ByteArray) (a b:Option Addr) (w:World) (h:IsPl w q s) (ho:OkS s) (hl:LAt w a ls) (hb:ls.length≤1000) (hn:∀ x∈ls,x.size≤1000) (hlt:LAt w b ts) (hbt:ts.length≤1000) (hnt:∀ x∈ts,x.size≤1000) (hE1:lastE s ls=0) (hE2:lastE s ts=0) (hf:∀ x,s.nd (lastD s ls)=some x→x.nm (lastN ls)=none) :
  Calls Tryz.prog 25 #[.pointer (some ⟨q.p,0,none⟩),.slice a ls.length ls.length,.slice b ts.length ts.length] w fun e w'=>e=.returned (.int .i64 110)∧Chg w w' No:=by
 obtain ⟨x1,hx1,hkx1⟩:=lastE_dir hE1;obtain ⟨c1,hq1,hN1⟩:=h.node hx1;have hs1:=lastN_size hn;have hL1:=wlast_good ls a w h ho hl hb hn hE1 hq1;obtain ⟨x2,hx2,hkx2⟩:=lastE_dir hE2;obtain ⟨c2,hq2,hN2⟩:=h.node hx2;have hs2:=lastN_size hnt;have HL2:Hid (∀ W,Chg w W No→Calls Tryz.prog 42 #[.pointer (some ⟨q.p,0,none⟩),.slice b ts.length ts.length] W fun e w'=>e=.returned (.tuple #[.agg #[.pointer (some ⟨c2.p,0,none⟩),.string (lastN ts)],.int .i64 0])∧Chg W w' No):=hid (fun W hW=>wlast_good ts b W (h.call hW) ho (hlt.call hW) hbt hnt hE2 hq2);have HF1:Hid (∀ W,Chg w W No→Calls Tryz.prog 43 #[.agg #[.pointer (some ⟨c1.p,0,none⟩),.string (lastN ls)]] W fun e w'=>e=.returned (.tuple #[.int .i64 ((findN x1 (lastN ls)).getD 0),.bool (findN x1 (lastN ls)).isSome])∧Chg W w' No):=hid (fun W hW=>spotfind_any (lastN ls) W (hN1.call hW) hs1 (fun k hk=>by have:=ho.nm _ x1 _ k hx1 hk;exact ⟨this.1,this.2.1⟩))
 have hfn:findN x1 (lastN ls)=none:=by unfold findN;rw [hf x1 hx1];rfl
 rw [hfn] at HF1;obtain ⟨n1,hn1⟩:∃ y,y=lastN ls:=⟨_,rfl⟩;obtain ⟨n2,hn2⟩:∃ y,y=lastN ts:=⟨_,rfl⟩;obtain ⟨n,hnn⟩:∃ y,y=ls.length:=⟨_,rfl⟩;obtain ⟨m,hmm⟩:∃ y,y=ts.length:=⟨_,rfl⟩;rw [←hn1,←hnn] at hL1;rw [←hmm] at HL2;rw [←hnn,←hmm];rw [←hn1] at HF1;rw [←hn2] at HL2;clear h ho hl hb hn hlt hbt hnt hE1 hx1 hq1 hN1 hs1 hn1 hn2 hnn hmm hkx1 hE2 hx2 hkx2 hq2 hN2 hs2 hfn hf
 go_enter Tryz.func25,Tryz.ntmps25
 go_upto_region 4 with (first
  | (go_at_call 42;go_must (refine hL1.mono ?_;rintro e w12 ⟨rfl,hc2⟩;have HC12:=hid hc2;clear hc2))
  | (refine store_R rfl 95 _ _ rfl w12.heap.size #[.pointer (some ⟨c1.p,0,none⟩),.string n1] rfl rfl 95 _ (heap_alloc_new _ _) (by rw [szSp];rfl) rfl (by simp [Value.oneCell']) ?_;intro w13 hw13)
  | fail)
 have h13:Chg w12 w13 No:=(Chg.alloc w12 _ No).trans (kt_new hw13) (fun _ _ e=>e) (fun j hj e=>by omega);have HC13:=hid (HC12.out.tr h13);obtain ⟨ga,hga⟩:∃ y,y=w12.heap.size:=⟨_,rfl⟩;have HGa:Hid (w13.heap[ga]? = some (.cells #[.pointer (some ⟨c1.p,0,none⟩),.string n1] 95 (0,0))):=hid (by rw [hga];exact hw13.here);rw [←hga];clear hga hw13 h13 hL1 HC12;have hL2:=HL2.out w13 HC13.out
 go_upto_region 7 with (first
  | (go_at_call 42;go_must (refine hL2.mono ?_;rintro e w22 ⟨rfl,hc2⟩;have HC22:=hid hc2;clear hc2))
  | (refine store_R rfl 95 _ _ rfl w22.heap.size #[.pointer (some ⟨c2.p,0,none⟩),.string n2] rfl rfl 95 _ (heap_alloc_new _ _) (by rw [szSp];rfl) rfl (by simp [Value.oneCell']) ?_;intro w23 hw23)
  | fail)
 have h23:Chg w22 w23 No:=(Chg.alloc w22 _ No).trans (kt_new hw23) (fun _ _ e=>e) (fun j hj e=>by omega);have HC23:=hid ((HC13.out.tr HC22.out).tr h23);obtain ⟨gb,hgb⟩:∃ y,y=w22.heap.size:=⟨_,rfl⟩;have HGb:Hid (w23.heap[gb]? = some (.cells #[.pointer (some ⟨c2.p,0,none⟩),.string n2] 95 (0,0))):=hid (by rw [hgb];exact hw23.here);have HGa2:=hid (h23.keep (HC22.out.keep HGa.out (fun e=>e)) (fun e=>e));rw [←hgb];clear hgb hw23 h23 hL2 HC22 HC13 HGa HL2;have hF1:=HF1.out w23 HC23.out
 go_wp2_with (first
  | (refine load_R rfl 95 _ rfl ga rfl 95 #[.pointer (some ⟨c1.p,0,none⟩),.string n1] _ HGa2.out Tryz.underlying95 rfl (by rw [szSp];rfl) ?_)
  | (go_at_call 43;go_must (refine hF1.mono ?_;rintro e w4 ⟨rfl,hc4⟩;have HC4:=hid (HC23.out.tr hc4);have HGa4:=hid (hc4.keep HGa2.out (fun e=>e));have HGb4:=hid (hc4.keep HGb.out (fun e=>e));clear hc4))
  | fail)
 go_ret
 exact ⟨rfl,HC4.out⟩
set_option maxHeartbeats 3000000 in
set_option maxRecDepth 100000 in
theorem rename_self {q:PC} {s:PSt} (ls ts:List ByteArray) (a b:Option Addr) (w:World) (h:IsPl w q s) (ho:OkS s) (hl:LAt w a ls) (hb:ls.length≤1000) (hn:∀ x∈ls,x.size≤1000) (hlt:LAt w b ts) (hbt:ts.length≤1000) (hnt:∀ x∈ts,x.size≤1000) (hE1:lastE s ls=0) (hE2:lastE s ts=0) (i:Nat) (x1 yi:Nd) (hx1:s.nd (lastD s ls)=some x1) (hf1:findN x1 (lastN ls)=some (i:Int)) (hyi:s.nd (i:Int)=some yi) (hd:lastD s ts=lastD s ls) (hnn2:lastN ts=lastN ls) :
  Calls Tryz.prog 25 #[.pointer (some ⟨q.p,0,none⟩),.slice a ls.length ls.length,.slice b ts.length ts.length] w fun e w'=>e=.returned (.int .i64 0)∧Chg w w' No:=by
 obtain ⟨c1,hq1,hN1⟩:=h.node hx1;have hs1:=lastN_size hn;have hL1:=wlast_good ls a w h ho hl hb hn hE1 hq1;obtain ⟨x2,hx2,hkx2⟩:=lastE_dir hE2;obtain ⟨c2,hq2,hN2⟩:=h.node hx2;have hs2:=lastN_size hnt;have HL2:Hid (∀ W,Chg w W No→Calls Tryz.prog 42 #[.pointer (some ⟨q.p,0,none⟩),.slice b ts.length ts.length] W fun e w'=>e=.returned (.tuple #[.agg #[.pointer (some ⟨c2.p,0,none⟩),.string (lastN ts)],.int .i64 0])∧Chg W w' No):=hid (fun W hW=>wlast_good ts b W (h.call hW) ho (hlt.call hW) hbt hnt hE2 hq2);have HF1:Hid (∀ W,Chg w W No→Calls Tryz.prog 43 #[.agg #[.pointer (some ⟨c1.p,0,none⟩),.string (lastN ls)]] W fun e w'=>e=.returned (.tuple #[.int .i64 ((findN x1 (lastN ls)).getD 0),.bool (findN x1 (lastN ls)).isSome])∧Chg W w' No):=hid (fun W hW=>spotfind_any (lastN ls) W (hN1.call hW) hs1 (fun k hk=>by have:=ho.nm _ x1 _ k hx1 hk;exact ⟨this.1,this.2.1⟩));rw [hf1] at HF1
 have hcc:c2=c1:=by rw [hd,hq1] at hq2;exact (Option.some.inj hq2).symm
 subst hcc;rw [hnn2] at HL2;have HEq:Hid (∀ W,Chg w W No→∀ n,(Op.equalIn 10000 95 (.agg #[.pointer (some ⟨c2.p,0,none⟩),.string n]) (.agg #[.pointer (some ⟨c2.p,0,none⟩),.string n])).run Tryz.prog W=.ok true W):=hid (fun W hW n=>by rw [spot_eq _ _ _ _ W (hN2.call hW).me (hN2.call hW).me,decide_eq_true ⟨rfl,rfl⟩]);obtain ⟨n1,hn1⟩:∃ y,y=lastN ls:=⟨_,rfl⟩;obtain ⟨n2,hn2⟩:∃ y,y=lastN ts:=⟨_,rfl⟩;obtain ⟨n,hnn⟩:∃ y,y=ls.length:=⟨_,rfl⟩;obtain ⟨m,hmm⟩:∃ y,y=ts.length:=⟨_,rfl⟩;rw [←hn1,←hnn] at hL1;rw [←hmm] at HL2;rw [←hnn,←hmm];rw [←hn1] at HF1;rw [←hn1] at HL2;clear h ho hl hb hn hlt hbt hnt hE1 hx1 hq1 hN1 hs1 hn1 hn2 hnn hmm hE2 hx2 hkx2 hq2 hN2 hs2 hf1 hyi hd hnn2
 go_enter Tryz.func25,Tryz.ntmps25
 go_upto_region 4 with (first
  | (go_at_call 42;go_must (refine hL1.mono ?_;rintro e w12 ⟨rfl,hc2⟩;have HC12:=hid hc2;clear hc2))
  | (refine store_R rfl 95 _ _ rfl w12.heap.size #[.pointer (some ⟨c2.p,0,none⟩),.string n1] rfl rfl 95 _ (heap_alloc_new _ _) (by rw [szSp];rfl) rfl (by simp [Value.oneCell']) ?_;intro w13 hw13)
  | fail)
 have h13:Chg w12 w13 No:=(Chg.alloc w12 _ No).trans (kt_new hw13) (fun _ _ e=>e) (fun j hj e=>by omega);have HC13:=hid (HC12.out.tr h13);obtain ⟨ga,hga⟩:∃ y,y=w12.heap.size:=⟨_,rfl⟩;have HGa:Hid (w13.heap[ga]? = some (.cells #[.pointer (some ⟨c2.p,0,none⟩),.string n1] 95 (0,0))):=hid (by rw [hga];exact hw13.here);rw [←hga];clear hga hw13 h13 hL1 HC12;have hL2:=HL2.out w13 HC13.out
 go_upto_region 7 with (first
  | (go_at_call 42;go_must (refine hL2.mono ?_;rintro e w22 ⟨rfl,hc2⟩;have HC22:=hid hc2;clear hc2))
  | (refine store_R rfl 95 _ _ rfl w22.heap.size #[.pointer (some ⟨c2.p,0,none⟩),.string n1] rfl rfl 95 _ (heap_alloc_new _ _) (by rw [szSp];rfl) rfl (by simp [Value.oneCell']) ?_;intro w23 hw23)
  | fail)
 have h23:Chg w22 w23 No:=(Chg.alloc w22 _ No).trans (kt_new hw23) (fun _ _ e=>e) (fun j hj e=>by omega);have HC23:=hid ((HC13.out.tr HC22.out).tr h23);obtain ⟨gb,hgb⟩:∃ y,y=w22.heap.size:=⟨_,rfl⟩;have HGb:Hid (w23.heap[gb]? = some (.cells #[.pointer (some ⟨c2.p,0,none⟩),.string n1] 95 (0,0))):=hid (by rw [hgb];exact hw23.here);have HGa2:=hid (h23.keep (HC22.out.keep HGa.out (fun e=>e)) (fun e=>e));rw [←hgb];clear hgb hw23 h23 hL2 HC22 HC13 HGa HL2;have hF1:=HF1.out w23 HC23.out
 go_upto_region 10 with (first
  | (refine load_R rfl 95 _ rfl ga rfl 95 #[.pointer (some ⟨c2.p,0,none⟩),.string n1] _ HGa2.out Tryz.underlying95 rfl (by rw [szSp];rfl) ?_)
  | (go_at_call 43;go_must (refine hF1.mono ?_;rintro e w4 ⟨rfl,hc4⟩;have HC4:=hid (HC23.out.tr hc4);have HGa4:=hid (hc4.keep HGa2.out (fun e=>e));have HGb4:=hid (hc4.keep HGb.out (fun e=>e));clear hc4))
  | fail)
 clear hF1 HF1 HC23 HGa2 HGb
 go_wp2_with (first
  | (refine load_R rfl 95 _ rfl ga rfl 95 #[.pointer (some ⟨c2.p,0,none⟩),.string n1] _ HGa4.out Tryz.underlying95 rfl (by rw [szSp];rfl) ?_)
  | (refine load_R rfl 95 _ rfl gb rfl 95 #[.pointer (some ⟨c2.p,0,none⟩),.string n1] _ HGb4.out Tryz.underlying95 rfl (by rw [szSp];rfl) ?_)
  | (refine eql_W (by rfl) 95 _ _ rfl #[.pointer (some ⟨c2.p,0,none⟩),.string n1] #[.pointer (some ⟨c2.p,0,none⟩),.string n1] true rfl rfl (HEq.out w4 HC4.out n1) (by kernel_rfl) ?_)
  | fail)
 go_ret
 exact ⟨rfl,HC4.out⟩
set_option maxHeartbeats 3000000 in
set_option maxRecDepth 100000 in
theorem rename_dirI {q:PC} {s:PSt} (ls ts:List ByteArray) (a b:Option Addr) (w:World) (h:IsPl w q s) (ho:OkS s) (hl:LAt w a ls) (hb:ls.length≤1000) (hn:∀ x∈ls,x.size≤1000) (hlt:LAt w b ts) (hbt:ts.length≤1000) (hnt:∀ x∈ts,x.size≤1000) (hE1:lastE s ls=0) (hE2:lastE s ts=0) (i:Nat) (x1 yi:Nd) (hx1:s.nd (lastD s ls)=some x1) (hf1:findN x1 (lastN ls)=some (i:Int)) (hyi:s.nd (i:Int)=some yi) (hne : ¬ (lastD s ts=lastD s ls∧lastN ts=lastN ls)) (x2:Nd) (hx2:s.nd (lastD s ts)=some x2) (j:Nat) (yj:Nd) (hf2:findN x2 (lastN ts)=some (j:Int)) (hyj:s.nd (j:Int)=some yj) (hki:yi.kind=2) :
  Calls Tryz.prog 25 #[.pointer (some ⟨q.p,0,none⟩),.slice a ls.length ls.length,.slice b ts.length ts.length] w fun e w'=>e=.returned (.int .i64 111)∧Chg w w' No:=by
 obtain ⟨c1,hq1,hN1⟩:=h.node hx1;have hs1:=lastN_size hn;have hL1:=wlast_good ls a w h ho hl hb hn hE1 hq1;obtain ⟨c2,hq2,hN2⟩:=h.node hx2;have hs2:=lastN_size hnt;have HL2:Hid (∀ W,Chg w W No→Calls Tryz.prog 42 #[.pointer (some ⟨q.p,0,none⟩),.slice b ts.length ts.length] W fun e w'=>e=.returned (.tuple #[.agg #[.pointer (some ⟨c2.p,0,none⟩),.string (lastN ts)],.int .i64 0])∧Chg W w' No):=hid (fun W hW=>wlast_good ts b W (h.call hW) ho (hlt.call hW) hbt hnt hE2 hq2);have HF1:Hid (∀ W,Chg w W No→Calls Tryz.prog 43 #[.agg #[.pointer (some ⟨c1.p,0,none⟩),.string (lastN ls)]] W fun e w'=>e=.returned (.tuple #[.int .i64 ((findN x1 (lastN ls)).getD 0),.bool (findN x1 (lastN ls)).isSome])∧Chg W w' No):=hid (fun W hW=>spotfind_any (lastN ls) W (hN1.call hW) hs1 (fun k hk=>by have:=ho.nm _ x1 _ k hx1 hk;exact ⟨this.1,this.2.1⟩));rw [hf1] at HF1;have HF2:Hid (∀ W,Chg w W No→Calls Tryz.prog 43 #[.agg #[.pointer (some ⟨c2.p,0,none⟩),.string (lastN ts)]] W fun e w'=>e=.returned (.tuple #[.int .i64 ((findN x2 (lastN ts)).getD 0),.bool (findN x2 (lastN ts)).isSome])∧Chg W w' No):=hid (fun W hW=>spotfind_any (lastN ts) W (hN2.call hW) hs2 (fun k hk=>by have:=ho.nm _ x2 _ k hx2 hk;exact ⟨this.1,this.2.1⟩));rw [hf2] at HF2
 have HNe:Hid (∀ W,Chg w W No→(Op.equalIn 10000 95 (.agg #[.pointer (some ⟨c1.p,0,none⟩),.string (lastN ls)]) (.agg #[.pointer (some ⟨c2.p,0,none⟩),.string (lastN ts)])).run Tryz.prog W=.ok false W):=hid (fun W hW=>by
  rw [spot_eq _ _ _ _ W (hN1.call hW).me (hN2.call hW).me];refine congrArg (fun z=>Result.ok z W) (decide_eq_false fun e=>hne ?_);refine ⟨?_,e.2.symm⟩
  by_cases hd:lastD s ts=lastD s ls
  ·exact hd
  ·exact absurd e.1 (h.pne hq1 hq2 (fun e=>hd e.symm)))
 obtain ⟨ci,hqi,hNi⟩:=h.node hyi
 have hI:I64 (i:Int):=by have:=h.rng _ (by rw [hqi];intro e;cases e);exact ⟨by omega,by omega⟩
 obtain ⟨fm,hfm⟩:∃ y:Int→Option Value,y=fun y=>(q.nc y).map ptrN:=⟨_,rfl⟩
 have HFi:Hid ((match fm (i:Int) with | some v=>v | none=>.pointer none)=.pointer (some ⟨ci.p,0,none⟩)):=hid (by rw [hfm];simp only [hqi];rfl);have HM:Hid (∀ W,Chg w W No→MapV W q.mb fm):=hid (fun W hW=>by rw [hfm];exact (h.call hW).mp);have HC2q:Hid (∀ W,Chg w W No→W.cell? ⟨q.p,2,none⟩=some (.map (some q.mb))):=hid (fun W hW=>(h.call hW).c2);have HDi:Hid (∀ W,Chg w W No→Calls Tryz.prog 48 #[.pointer (some ⟨ci.p,0,none⟩)] W fun e w'=>e=.returned (.bool true)∧w'=W):=hid (fun W hW=>by have:=isDirectory_any W (hNi.call hW);rw [decide_eq_true hki] at this;exact this);have HI:=hid hI;obtain ⟨n1,hn1⟩:∃ y,y=lastN ls:=⟨_,rfl⟩;obtain ⟨n2,hn2⟩:∃ y,y=lastN ts:=⟨_,rfl⟩;obtain ⟨n,hnn⟩:∃ y,y=ls.length:=⟨_,rfl⟩;obtain ⟨m,hmm⟩:∃ y,y=ts.length:=⟨_,rfl⟩;rw [←hn1,←hnn] at hL1;rw [←hmm] at HL2;rw [←hnn,←hmm];rw [←hn1] at HF1;rw [←hn2] at HL2;rw [←hn2] at HF2;rw [←hn1,←hn2] at HNe;clear h ho hl hb hn hlt hbt hnt hE1 hx1 hq1 hN1 hs1 hn1 hn2 hnn hmm hE2 hx2 hq2 hN2 hs2 hf1 hf2 hyi hne hqi hNi hI hfm hki hyj
 go_enter Tryz.func25,Tryz.ntmps25
 go_upto_region 4 with (first
  | (go_at_call 42;go_must (refine hL1.mono ?_;rintro e w12 ⟨rfl,hc2⟩;have HC12:=hid hc2;clear hc2))
  | (refine store_R rfl 95 _ _ rfl w12.heap.size #[.pointer (some ⟨c1.p,0,none⟩),.string n1] rfl rfl 95 _ (heap_alloc_new _ _) (by rw [szSp];rfl) rfl (by simp [Value.oneCell']) ?_;intro w13 hw13)
  | fail)
 have h13:Chg w12 w13 No:=(Chg.alloc w12 _ No).trans (kt_new hw13) (fun _ _ e=>e) (fun j hj e=>by omega);have HC13:=hid (HC12.out.tr h13);obtain ⟨ga,hga⟩:∃ y,y=w12.heap.size:=⟨_,rfl⟩;have HGa:Hid (w13.heap[ga]? = some (.cells #[.pointer (some ⟨c1.p,0,none⟩),.string n1] 95 (0,0))):=hid (by rw [hga];exact hw13.here);rw [←hga];clear hga hw13 h13 hL1 HC12;have hL2:=HL2.out w13 HC13.out
 go_upto_region 7 with (first
  | (go_at_call 42;go_must (refine hL2.mono ?_;rintro e w22 ⟨rfl,hc2⟩;have HC22:=hid hc2;clear hc2))
  | (refine store_R rfl 95 _ _ rfl w22.heap.size #[.pointer (some ⟨c2.p,0,none⟩),.string n2] rfl rfl 95 _ (heap_alloc_new _ _) (by rw [szSp];rfl) rfl (by simp [Value.oneCell']) ?_;intro w23 hw23)
  | fail)
 have h23:Chg w22 w23 No:=(Chg.alloc w22 _ No).trans (kt_new hw23) (fun _ _ e=>e) (fun j hj e=>by omega);have HC23:=hid ((HC13.out.tr HC22.out).tr h23);obtain ⟨gb,hgb⟩:∃ y,y=w22.heap.size:=⟨_,rfl⟩;have HGb:Hid (w23.heap[gb]? = some (.cells #[.pointer (some ⟨c2.p,0,none⟩),.string n2] 95 (0,0))):=hid (by rw [hgb];exact hw23.here);have HGa2:=hid (h23.keep (HC22.out.keep HGa.out (fun e=>e)) (fun e=>e));rw [←hgb];clear hgb hw23 h23 hL2 HC22 HC13 HGa HL2;have hF1:=HF1.out w23 HC23.out
 go_upto_region 10 with (first
  | (refine load_R rfl 95 _ rfl ga rfl 95 #[.pointer (some ⟨c1.p,0,none⟩),.string n1] _ HGa2.out Tryz.underlying95 rfl (by rw [szSp];rfl) ?_)
  | (go_at_call 43;go_must (refine hF1.mono ?_;rintro e w4 ⟨rfl,hc4⟩;have HC4:=hid (HC23.out.tr hc4);have HGa4:=hid (hc4.keep HGa2.out (fun e=>e));have HGb4:=hid (hc4.keep HGb.out (fun e=>e));clear hc4))
  | fail)
 clear hF1 HF1 HC23 HGa2 HGb
 go_upto_region 12 with (first
  | (refine load_R rfl 95 _ rfl ga rfl 95 #[.pointer (some ⟨c1.p,0,none⟩),.string n1] _ HGa4.out Tryz.underlying95 rfl (by rw [szSp];rfl) ?_)
  | (refine load_R rfl 95 _ rfl gb rfl 95 #[.pointer (some ⟨c2.p,0,none⟩),.string n2] _ HGb4.out Tryz.underlying95 rfl (by rw [szSp];rfl) ?_)
  | (refine eql_W (by rfl) 95 _ _ rfl #[.pointer (some ⟨c1.p,0,none⟩),.string n1] #[.pointer (some ⟨c2.p,0,none⟩),.string n2] false rfl rfl (HNe.out w4 HC4.out) (by kernel_rfl) ?_)
  | fail)
 have hF2:=HF2.out w4 HC4.out
 go_upto_region 13 with (first
  | (refine load_R rfl 95 _ rfl gb rfl 95 #[.pointer (some ⟨c2.p,0,none⟩),.string n2] _ HGb4.out Tryz.underlying95 rfl (by rw [szSp];rfl) ?_)
  | (go_at_call 43;go_must (refine hF2.mono ?_;rintro e w5 ⟨rfl,hc5⟩;have HC5:=hid (HC4.out.tr hc5);have HGa5:=hid (hc5.keep HGa4.out (fun e=>e));have HGb5:=hid (hc5.keep HGb4.out (fun e=>e));clear hc5))
  | fail)
 clear hF2 HF2 HC4 HGa4 HGb4;have c2q:=HC2q.out w5 HC5.out;have hDi:=HDi.out w5 HC5.out
 go_upto_region 14 with (first
  | (at_lookup;go_must (refine wp_lookVN rfl _ _ rfl q.mb fm (i:Int) _ HFi.out rfl rfl (HM.out w5 HC5.out) HI.out ?_))
  | (go_at_call 48;go_must (refine hDi.mono ?_;rintro e w6 ⟨rfl,hw6⟩;subst hw6))
  | fail)
 clear hDi HDi
 go_wp2_with (first
  | fail)
 go_ret
 exact ⟨rfl,HC5.out⟩
set_option maxHeartbeats 3000000 in
set_option maxRecDepth 100000 in
theorem rename_dirJ {q:PC} {s:PSt} (ls ts:List ByteArray) (a b:Option Addr) (w:World) (h:IsPl w q s) (ho:OkS s) (hl:LAt w a ls) (hb:ls.length≤1000) (hn:∀ x∈ls,x.size≤1000) (hlt:LAt w b ts) (hbt:ts.length≤1000) (hnt:∀ x∈ts,x.size≤1000) (hE1:lastE s ls=0) (hE2:lastE s ts=0) (i:Nat) (x1 yi:Nd) (hx1:s.nd (lastD s ls)=some x1) (hf1:findN x1 (lastN ls)=some (i:Int)) (hyi:s.nd (i:Int)=some yi) (hne : ¬ (lastD s ts=lastD s ls∧lastN ts=lastN ls)) (x2:Nd) (hx2:s.nd (lastD s ts)=some x2) (j:Nat) (yj:Nd) (hf2:findN x2 (lastN ts)=some (j:Int)) (hyj:s.nd (j:Int)=some yj) (hki : ¬ yi.kind=2) (hkj:yj.kind=2) :
  Calls Tryz.prog 25 #[.pointer (some ⟨q.p,0,none⟩),.slice a ls.length ls.length,.slice b ts.length ts.length] w fun e w'=>e=.returned (.int .i64 111)∧Chg w w' No:=by
 obtain ⟨c1,hq1,hN1⟩:=h.node hx1;have hs1:=lastN_size hn;have hL1:=wlast_good ls a w h ho hl hb hn hE1 hq1;obtain ⟨c2,hq2,hN2⟩:=h.node hx2;have hs2:=lastN_size hnt;have HL2:Hid (∀ W,Chg w W No→Calls Tryz.prog 42 #[.pointer (some ⟨q.p,0,none⟩),.slice b ts.length ts.length] W fun e w'=>e=.returned (.tuple #[.agg #[.pointer (some ⟨c2.p,0,none⟩),.string (lastN ts)],.int .i64 0])∧Chg W w' No):=hid (fun W hW=>wlast_good ts b W (h.call hW) ho (hlt.call hW) hbt hnt hE2 hq2);have HF1:Hid (∀ W,Chg w W No→Calls Tryz.prog 43 #[.agg #[.pointer (some ⟨c1.p,0,none⟩),.string (lastN ls)]] W fun e w'=>e=.returned (.tuple #[.int .i64 ((findN x1 (lastN ls)).getD 0),.bool (findN x1 (lastN ls)).isSome])∧Chg W w' No):=hid (fun W hW=>spotfind_any (lastN ls) W (hN1.call hW) hs1 (fun k hk=>by have:=ho.nm _ x1 _ k hx1 hk;exact ⟨this.1,this.2.1⟩));rw [hf1] at HF1;have HF2:Hid (∀ W,Chg w W No→Calls Tryz.prog 43 #[.agg #[.pointer (some ⟨c2.p,0,none⟩),.string (lastN ts)]] W fun e w'=>e=.returned (.tuple #[.int .i64 ((findN x2 (lastN ts)).getD 0),.bool (findN x2 (lastN ts)).isSome])∧Chg W w' No):=hid (fun W hW=>spotfind_any (lastN ts) W (hN2.call hW) hs2 (fun k hk=>by have:=ho.nm _ x2 _ k hx2 hk;exact ⟨this.1,this.2.1⟩));rw [hf2] at HF2
 have HNe:Hid (∀ W,Chg w W No→(Op.equalIn 10000 95 (.agg #[.pointer (some ⟨c1.p,0,none⟩),.string (lastN ls)]) (.agg #[.pointer (some ⟨c2.p,0,none⟩),.string (lastN ts)])).run Tryz.prog W=.ok false W):=hid (fun W hW=>by
  rw [spot_eq _ _ _ _ W (hN1.call hW).me (hN2.call hW).me];refine congrArg (fun z=>Result.ok z W) (decide_eq_false fun e=>hne ?_);refine ⟨?_,e.2.symm⟩
  by_cases hd:lastD s ts=lastD s ls
  ·exact hd
  ·exact absurd e.1 (h.pne hq1 hq2 (fun e=>hd e.symm)))
 obtain ⟨ci,hqi,hNi⟩:=h.node hyi
 have hI:I64 (i:Int):=by have:=h.rng _ (by rw [hqi];intro e;cases e);exact ⟨by omega,by omega⟩
 obtain ⟨fm,hfm⟩:∃ y:Int→Option Value,y=fun y=>(q.nc y).map ptrN:=⟨_,rfl⟩
 have HFi:Hid ((match fm (i:Int) with | some v=>v | none=>.pointer none)=.pointer (some ⟨ci.p,0,none⟩)):=hid (by rw [hfm];simp only [hqi];rfl);have HM:Hid (∀ W,Chg w W No→MapV W q.mb fm):=hid (fun W hW=>by rw [hfm];exact (h.call hW).mp);have HC2q:Hid (∀ W,Chg w W No→W.cell? ⟨q.p,2,none⟩=some (.map (some q.mb))):=hid (fun W hW=>(h.call hW).c2);have HDi:Hid (∀ W,Chg w W No→Calls Tryz.prog 48 #[.pointer (some ⟨ci.p,0,none⟩)] W fun e w'=>e=.returned (.bool false)∧w'=W):=hid (fun W hW=>by have:=isDirectory_any W (hNi.call hW);rw [decide_eq_false hki] at this;exact this);have HI:=hid hI;obtain ⟨cj,hqj,hNj⟩:=h.node hyj
 have hJ:I64 (j:Int):=by have:=h.rng _ (by rw [hqj];intro e;cases e);exact ⟨by omega,by omega⟩
 have HFj:Hid ((match fm (j:Int) with | some v=>v | none=>.pointer none)=.pointer (some ⟨cj.p,0,none⟩)):=hid (by rw [hfm];simp only [hqj];rfl);have HDj:Hid (∀ W,Chg w W No→Calls Tryz.prog 48 #[.pointer (some ⟨cj.p,0,none⟩)] W fun e w'=>e=.returned (.bool true)∧w'=W):=hid (fun W hW=>by have:=isDirectory_any W (hNj.call hW);rw [decide_eq_true hkj] at this;exact this);have HJ:=hid hJ;obtain ⟨n1,hn1⟩:∃ y,y=lastN ls:=⟨_,rfl⟩;obtain ⟨n2,hn2⟩:∃ y,y=lastN ts:=⟨_,rfl⟩;obtain ⟨n,hnn⟩:∃ y,y=ls.length:=⟨_,rfl⟩;obtain ⟨m,hmm⟩:∃ y,y=ts.length:=⟨_,rfl⟩;rw [←hn1,←hnn] at hL1;rw [←hmm] at HL2;rw [←hnn,←hmm];rw [←hn1] at HF1;rw [←hn2] at HL2;rw [←hn2] at HF2;rw [←hn1,←hn2] at HNe;clear h ho hl hb hn hlt hbt hnt hE1 hx1 hq1 hN1 hs1 hn1 hn2 hnn hmm hE2 hx2 hq2 hN2 hs2 hf1 hf2 hyi hne hqi hNi hI hfm hki hyj hqj hNj hJ hkj
 go_enter Tryz.func25,Tryz.ntmps25
 go_upto_region 4 with (first
  | (go_at_call 42;go_must (refine hL1.mono ?_;rintro e w12 ⟨rfl,hc2⟩;have HC12:=hid hc2;clear hc2))
  | (refine store_R rfl 95 _ _ rfl w12.heap.size #[.pointer (some ⟨c1.p,0,none⟩),.string n1] rfl rfl 95 _ (heap_alloc_new _ _) (by rw [szSp];rfl) rfl (by simp [Value.oneCell']) ?_;intro w13 hw13)
  | fail)
 have h13:Chg w12 w13 No:=(Chg.alloc w12 _ No).trans (kt_new hw13) (fun _ _ e=>e) (fun j hj e=>by omega);have HC13:=hid (HC12.out.tr h13);obtain ⟨ga,hga⟩:∃ y,y=w12.heap.size:=⟨_,rfl⟩;have HGa:Hid (w13.heap[ga]? = some (.cells #[.pointer (some ⟨c1.p,0,none⟩),.string n1] 95 (0,0))):=hid (by rw [hga];exact hw13.here);rw [←hga];clear hga hw13 h13 hL1 HC12;have hL2:=HL2.out w13 HC13.out
 go_upto_region 7 with (first
  | (go_at_call 42;go_must (refine hL2.mono ?_;rintro e w22 ⟨rfl,hc2⟩;have HC22:=hid hc2;clear hc2))
  | (refine store_R rfl 95 _ _ rfl w22.heap.size #[.pointer (some ⟨c2.p,0,none⟩),.string n2] rfl rfl 95 _ (heap_alloc_new _ _) (by rw [szSp];rfl) rfl (by simp [Value.oneCell']) ?_;intro w23 hw23)
  | fail)
 have h23:Chg w22 w23 No:=(Chg.alloc w22 _ No).trans (kt_new hw23) (fun _ _ e=>e) (fun j hj e=>by omega);have HC23:=hid ((HC13.out.tr HC22.out).tr h23);obtain ⟨gb,hgb⟩:∃ y,y=w22.heap.size:=⟨_,rfl⟩;have HGb:Hid (w23.heap[gb]? = some (.cells #[.pointer (some ⟨c2.p,0,none⟩),.string n2] 95 (0,0))):=hid (by rw [hgb];exact hw23.here);have HGa2:=hid (h23.keep (HC22.out.keep HGa.out (fun e=>e)) (fun e=>e));rw [←hgb];clear hgb hw23 h23 hL2 HC22 HC13 HGa HL2;have hF1:=HF1.out w23 HC23.out
 go_upto_region 10 with (first
  | (refine load_R rfl 95 _ rfl ga rfl 95 #[.pointer (some ⟨c1.p,0,none⟩),.string n1] _ HGa2.out Tryz.underlying95 rfl (by rw [szSp];rfl) ?_)
  | (go_at_call 43;go_must (refine hF1.mono ?_;rintro e w4 ⟨rfl,hc4⟩;have HC4:=hid (HC23.out.tr hc4);have HGa4:=hid (hc4.keep HGa2.out (fun e=>e));have HGb4:=hid (hc4.keep HGb.out (fun e=>e));clear hc4))
  | fail)
 clear hF1 HF1 HC23 HGa2 HGb
 go_upto_region 12 with (first
  | (refine load_R rfl 95 _ rfl ga rfl 95 #[.pointer (some ⟨c1.p,0,none⟩),.string n1] _ HGa4.out Tryz.underlying95 rfl (by rw [szSp];rfl) ?_)
  | (refine load_R rfl 95 _ rfl gb rfl 95 #[.pointer (some ⟨c2.p,0,none⟩),.string n2] _ HGb4.out Tryz.underlying95 rfl (by rw [szSp];rfl) ?_)
  | (refine eql_W (by rfl) 95 _ _ rfl #[.pointer (some ⟨c1.p,0,none⟩),.string n1] #[.pointer (some ⟨c2.p,0,none⟩),.string n2] false rfl rfl (HNe.out w4 HC4.out) (by kernel_rfl) ?_)
  | fail)
 have hF2:=HF2.out w4 HC4.out
 go_upto_region 13 with (first
  | (refine load_R rfl 95 _ rfl gb rfl 95 #[.pointer (some ⟨c2.p,0,none⟩),.string n2] _ HGb4.out Tryz.underlying95 rfl (by rw [szSp];rfl) ?_)
  | (go_at_call 43;go_must (refine hF2.mono ?_;rintro e w5 ⟨rfl,hc5⟩;have HC5:=hid (HC4.out.tr hc5);have HGa5:=hid (hc5.keep HGa4.out (fun e=>e));have HGb5:=hid (hc5.keep HGb4.out (fun e=>e));clear hc5))
  | fail)
 clear hF2 HF2 HC4 HGa4 HGb4;have c2q:=HC2q.out w5 HC5.out;have hDi:=HDi.out w5 HC5.out
 go_upto_region 14 with (first
  | (at_lookup;go_must (refine wp_lookVN rfl _ _ rfl q.mb fm (i:Int) _ HFi.out rfl rfl (HM.out w5 HC5.out) HI.out ?_))
  | (go_at_call 48;go_must (refine hDi.mono ?_;rintro e w6 ⟨rfl,hw6⟩;subst hw6))
  | fail)
 clear hDi HDi;have hDj:=HDj.out w6 HC5.out
 go_wp2_with (first
  | (refine wp_lookW (by rfl) _ _ rfl q.mb fm (j:Int) _ HFj.out rfl rfl (HM.out _ HC5.out) HJ.out ?_)
  | (go_at_call 48;go_must (refine hDj.mono ?_;rintro e w7 ⟨rfl,hw7⟩;subst hw7))
  | fail)
 go_ret
 exact ⟨rfl,HC5.out⟩
set_option maxHeartbeats 3000000 in
set_option maxRecDepth 100000 in
theorem rename_loop {q:PC} {s:PSt} (ls ts:List ByteArray) (a b:Option Addr) (w:World) (h:IsPl w q s) (ho:OkS s) (hl:LAt w a ls) (hb:ls.length≤1000) (hn:∀ x∈ls,x.size≤1000) (hlt:LAt w b ts) (hbt:ts.length≤1000) (hnt:∀ x∈ts,x.size≤1000) (hE1:lastE s ls=0) (hE2:lastE s ts=0) (i:Nat) (x1 yi:Nd) (hx1:s.nd (lastD s ls)=some x1) (hf1:findN x1 (lastN ls)=some (i:Int)) (hyi:s.nd (i:Int)=some yi) (hne : ¬ (lastD s ts=lastD s ls∧lastN ts=lastN ls)) (x2:Nd) (hx2:s.nd (lastD s ts)=some x2) (hf2:findN x2 (lastN ts)=none) (hki:yi.kind=2) (hbl:belowB ts ls=true) :
  Calls Tryz.prog 25 #[.pointer (some ⟨q.p,0,none⟩),.slice a ls.length ls.length,.slice b ts.length ts.length] w fun e w'=>e=.returned (.int .i64 141)∧Chg w w' No:=by
 obtain ⟨c1,hq1,hN1⟩:=h.node hx1;have hs1:=lastN_size hn;have hL1:=wlast_good ls a w h ho hl hb hn hE1 hq1;obtain ⟨c2,hq2,hN2⟩:=h.node hx2;have hs2:=lastN_size hnt;have HL2:Hid (∀ W,Chg w W No→Calls Tryz.prog 42 #[.pointer (some ⟨q.p,0,none⟩),.slice b ts.length ts.length] W fun e w'=>e=.returned (.tuple #[.agg #[.pointer (some ⟨c2.p,0,none⟩),.string (lastN ts)],.int .i64 0])∧Chg W w' No):=hid (fun W hW=>wlast_good ts b W (h.call hW) ho (hlt.call hW) hbt hnt hE2 hq2);have HF1:Hid (∀ W,Chg w W No→Calls Tryz.prog 43 #[.agg #[.pointer (some ⟨c1.p,0,none⟩),.string (lastN ls)]] W fun e w'=>e=.returned (.tuple #[.int .i64 ((findN x1 (lastN ls)).getD 0),.bool (findN x1 (lastN ls)).isSome])∧Chg W w' No):=hid (fun W hW=>spotfind_any (lastN ls) W (hN1.call hW) hs1 (fun k hk=>by have:=ho.nm _ x1 _ k hx1 hk;exact ⟨this.1,this.2.1⟩));rw [hf1] at HF1;have HF2:Hid (∀ W,Chg w W No→Calls Tryz.prog 43 #[.agg #[.pointer (some ⟨c2.p,0,none⟩),.string (lastN ts)]] W fun e w'=>e=.returned (.tuple #[.int .i64 ((findN x2 (lastN ts)).getD 0),.bool (findN x2 (lastN ts)).isSome])∧Chg W w' No):=hid (fun W hW=>spotfind_any (lastN ts) W (hN2.call hW) hs2 (fun k hk=>by have:=ho.nm _ x2 _ k hx2 hk;exact ⟨this.1,this.2.1⟩));rw [hf2] at HF2
 have HNe:Hid (∀ W,Chg w W No→(Op.equalIn 10000 95 (.agg #[.pointer (some ⟨c1.p,0,none⟩),.string (lastN ls)]) (.agg #[.pointer (some ⟨c2.p,0,none⟩),.string (lastN ts)])).run Tryz.prog W=.ok false W):=hid (fun W hW=>by
  rw [spot_eq _ _ _ _ W (hN1.call hW).me (hN2.call hW).me];refine congrArg (fun z=>Result.ok z W) (decide_eq_false fun e=>hne ?_);refine ⟨?_,e.2.symm⟩
  by_cases hd:lastD s ts=lastD s ls
  ·exact hd
  ·exact absurd e.1 (h.pne hq1 hq2 (fun e=>hd e.symm)))
 obtain ⟨ci,hqi,hNi⟩:=h.node hyi
 have hI:I64 (i:Int):=by have:=h.rng _ (by rw [hqi];intro e;cases e);exact ⟨by omega,by omega⟩
 obtain ⟨fm,hfm⟩:∃ y:Int→Option Value,y=fun y=>(q.nc y).map ptrN:=⟨_,rfl⟩
 have HFi:Hid ((match fm (i:Int) with | some v=>v | none=>.pointer none)=.pointer (some ⟨ci.p,0,none⟩)):=hid (by rw [hfm];simp only [hqi];rfl);have HM:Hid (∀ W,Chg w W No→MapV W q.mb fm):=hid (fun W hW=>by rw [hfm];exact (h.call hW).mp);have HC2q:Hid (∀ W,Chg w W No→W.cell? ⟨q.p,2,none⟩=some (.map (some q.mb))):=hid (fun W hW=>(h.call hW).c2);have HDi:Hid (∀ W,Chg w W No→Calls Tryz.prog 48 #[.pointer (some ⟨ci.p,0,none⟩)] W fun e w'=>e=.returned (.bool true)∧w'=W):=hid (fun W hW=>by have:=isDirectory_any W (hNi.call hW);rw [decide_eq_true hki] at this;exact this);have HI:=hid hI;have HBl:Hid (∀ W,Chg w W No→Calls Tryz.prog 51 #[.slice b ts.length ts.length,.slice a ls.length ls.length] W fun e w'=>e=.returned (.bool true)∧Chg W w' No):=hid (fun W hW=>by have:=isBelow_any ts ls b a W (hlt.call hW) (hl.call hW) hbt hb;rw [hbl] at this;exact this);obtain ⟨n1,hn1⟩:∃ y,y=lastN ls:=⟨_,rfl⟩;obtain ⟨n2,hn2⟩:∃ y,y=lastN ts:=⟨_,rfl⟩;obtain ⟨n,hnn⟩:∃ y,y=ls.length:=⟨_,rfl⟩;obtain ⟨m,hmm⟩:∃ y,y=ts.length:=⟨_,rfl⟩;rw [←hn1,←hnn] at hL1;rw [←hmm] at HL2;rw [←hnn,←hmm];rw [←hn1] at HF1;rw [←hn2] at HL2;rw [←hn2] at HF2;rw [←hn1,←hn2] at HNe;rw [←hnn,←hmm] at HBl;clear h ho hl hb hn hlt hbt hnt hE1 hx1 hq1 hN1 hs1 hn1 hn2 hnn hmm hE2 hx2 hq2 hN2 hs2 hf1 hf2 hyi hne hqi hNi hI hfm hki hbl
 go_enter Tryz.func25,Tryz.ntmps25
 go_upto_region 4 with (first
  | (go_at_call 42;go_must (refine hL1.mono ?_;rintro e w12 ⟨rfl,hc2⟩;have HC12:=hid hc2;clear hc2))
  | (refine store_R rfl 95 _ _ rfl w12.heap.size #[.pointer (some ⟨c1.p,0,none⟩),.string n1] rfl rfl 95 _ (heap_alloc_new _ _) (by rw [szSp];rfl) rfl (by simp [Value.oneCell']) ?_;intro w13 hw13)
  | fail)
 have h13:Chg w12 w13 No:=(Chg.alloc w12 _ No).trans (kt_new hw13) (fun _ _ e=>e) (fun j hj e=>by omega);have HC13:=hid (HC12.out.tr h13);obtain ⟨ga,hga⟩:∃ y,y=w12.heap.size:=⟨_,rfl⟩;have HGa:Hid (w13.heap[ga]? = some (.cells #[.pointer (some ⟨c1.p,0,none⟩),.string n1] 95 (0,0))):=hid (by rw [hga];exact hw13.here);rw [←hga];clear hga hw13 h13 hL1 HC12;have hL2:=HL2.out w13 HC13.out
 go_upto_region 7 with (first
  | (go_at_call 42;go_must (refine hL2.mono ?_;rintro e w22 ⟨rfl,hc2⟩;have HC22:=hid hc2;clear hc2))
  | (refine store_R rfl 95 _ _ rfl w22.heap.size #[.pointer (some ⟨c2.p,0,none⟩),.string n2] rfl rfl 95 _ (heap_alloc_new _ _) (by rw [szSp];rfl) rfl (by simp [Value.oneCell']) ?_;intro w23 hw23)
  | fail)
 have h23:Chg w22 w23 No:=(Chg.alloc w22 _ No).trans (kt_new hw23) (fun _ _ e=>e) (fun j hj e=>by omega);have HC23:=hid ((HC13.out.tr HC22.out).tr h23);obtain ⟨gb,hgb⟩:∃ y,y=w22.heap.size:=⟨_,rfl⟩;have HGb:Hid (w23.heap[gb]? = some (.cells #[.pointer (some ⟨c2.p,0,none⟩),.string n2] 95 (0,0))):=hid (by rw [hgb];exact hw23.here);have HGa2:=hid (h23.keep (HC22.out.keep HGa.out (fun e=>e)) (fun e=>e));rw [←hgb];clear hgb hw23 h23 hL2 HC22 HC13 HGa HL2;have hF1:=HF1.out w23 HC23.out
 go_upto_region 10 with (first
  | (refine load_R rfl 95 _ rfl ga rfl 95 #[.pointer (some ⟨c1.p,0,none⟩),.string n1] _ HGa2.out Tryz.underlying95 rfl (by rw [szSp];rfl) ?_)
  | (go_at_call 43;go_must (refine hF1.mono ?_;rintro e w4 ⟨rfl,hc4⟩;have HC4:=hid (HC23.out.tr hc4);have HGa4:=hid (hc4.keep HGa2.out (fun e=>e));have HGb4:=hid (hc4.keep HGb.out (fun e=>e));clear hc4))
  | fail)
 clear hF1 HF1 HC23 HGa2 HGb
 go_upto_region 12 with (first
  | (refine load_R rfl 95 _ rfl ga rfl 95 #[.pointer (some ⟨c1.p,0,none⟩),.string n1] _ HGa4.out Tryz.underlying95 rfl (by rw [szSp];rfl) ?_)
  | (refine load_R rfl 95 _ rfl gb rfl 95 #[.pointer (some ⟨c2.p,0,none⟩),.string n2] _ HGb4.out Tryz.underlying95 rfl (by rw [szSp];rfl) ?_)
  | (refine eql_W (by rfl) 95 _ _ rfl #[.pointer (some ⟨c1.p,0,none⟩),.string n1] #[.pointer (some ⟨c2.p,0,none⟩),.string n2] false rfl rfl (HNe.out w4 HC4.out) (by kernel_rfl) ?_)
  | fail)
 have hF2:=HF2.out w4 HC4.out
 go_upto_region 13 with (first
  | (refine load_R rfl 95 _ rfl gb rfl 95 #[.pointer (some ⟨c2.p,0,none⟩),.string n2] _ HGb4.out Tryz.underlying95 rfl (by rw [szSp];rfl) ?_)
  | (go_at_call 43;go_must (refine hF2.mono ?_;rintro e w5 ⟨rfl,hc5⟩;have HC5:=hid (HC4.out.tr hc5);have HGa5:=hid (hc5.keep HGa4.out (fun e=>e));have HGb5:=hid (hc5.keep HGb4.out (fun e=>e));clear hc5))
  | fail)
 clear hF2 HF2 HC4 HGa4 HGb4;have c2q:=HC2q.out w5 HC5.out;have hDi:=HDi.out w5 HC5.out
 go_upto_region 14 with (first
  | (at_lookup;go_must (refine wp_lookVN rfl _ _ rfl q.mb fm (i:Int) _ HFi.out rfl rfl (HM.out w5 HC5.out) HI.out ?_))
  | (go_at_call 48;go_must (refine hDi.mono ?_;rintro e w6 ⟨rfl,hw6⟩;subst hw6))
  | fail)
 clear hDi HDi
 go_upto_region 16 with (first
  | fail)
 have hBl:=HBl.out w6 HC5.out
 go_wp2_with (first
  | (go_at_call 51;go_must (refine hBl.mono ?_;rintro e w8 ⟨rfl,hc8⟩;have HC8:=hid (HC5.out.tr hc8);have HGa8:=hid (hc8.keep HGa5.out (fun e=>e));have HGb8:=hid (hc8.keep HGb5.out (fun e=>e));clear hc8))
  | fail)
 go_ret
 exact ⟨rfl,HC8.out⟩
end Go.Proofs.YtmgfilacepnjlaaGreatDoor
