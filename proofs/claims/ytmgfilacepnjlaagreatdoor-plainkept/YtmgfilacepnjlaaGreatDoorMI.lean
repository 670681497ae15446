/-
 Maps from numbers to values, in memory.
-/
import Derived.Test.YtmgfilacepnjlaaGreatDoorDrawn
import Derived.Maps.RangeWalk
namespace Go.Proofs.YtmgfilacepnjlaaGreatDoor
open Go.RowKit

theorem keyI:Maps.Keyed Tryz.prog 3:=Maps.int_keyed Tryz.underlying3
theorem keyOfI {x:Int} (h:I64 x):keyOf Tryz.prog 3 (.int .i64 x)=some (.int .i64 x):=Maps.keyOf_int_mk Tryz.underlying3 (WalkArith.wf_i64 h)
theorem wfI {x:Int} (h:(Lit.int .i64 x).wf=true):I64 x:=by
 have h:IntKind.i64.min≤x∧x≤9223372036854775807:=by simpa [Lit.wf] using h
 exact ⟨h.1,h.2⟩
theorem keyLit (x:Int):WideAt.IsKeyLit (.int .i64 x):=trivial
theorem nodup_len:∀ (l L:List Int),l.Pairwise (· ≠ ·)→(∀ x,x∈l→x∈L)→l.length≤L.length
 | [],_,_,_=>Nat.zero_le _
 | x :: l,L,hp,hs=>by
  obtain ⟨h1,h2⟩:=List.pairwise_cons.1 hp;have hx:x∈L:=hs x (by simp);have:=nodup_len l (L.erase x) h2 (fun y hy=>(List.mem_erase_of_ne (fun e=>h1 y hy e.symm)).2 (hs y (by simp [hy])));rw [List.length_erase_of_mem hx] at this;have:=List.length_pos_of_mem hx
  simp
  omega

theorem turned_chg {w w':World} {b:Nat} (h:w.mapTurned w' b):Chg w w' (· = b)∧w'.heap.size=w.heap.size:=by
 refine ⟨?_,?_⟩
 ·have:=Chg.grown h.grown
  exact this.mono fun j _ e=>by simpa using e
 ·obtain ⟨es,clock,es',clock',hb,rfl⟩:=h
  simp [ChangeMaps.setBlock]

def decV (v:Value):Option (DataW Value × List MemPlace):=some (.held v,[])
def MapV (w:World) (b:Nat) (f:Int→Option Value):Prop :=
 ∃ D:DataW Value,w.ownsMap Tryz.prog 3 decV b (Maps.size D) D∧(∀ x,Maps.has D (.int .i64 x)=(f x).isSome)∧∀ x v,f x=some v→∀ z,D.atKey (.int .i64 x) z=.held v

section
variable {R:Value→Option (DataW Value × List MemPlace)} {w:World} {b n:Nat} {D:DataW Value}
theorem tightV (h:w.ownsMap Tryz.prog 3 R b n D):w.ownsMap Tryz.prog 3 R b (Maps.size D) D:=by
 obtain ⟨es,clock,hb,F,hs,hD⟩:=h;refine ⟨es,clock,hb,F,?_,hD⟩;rw [hD]
 simp [Maps.size,length_sorted]
theorem keys_ofV (h:w.ownsMap Tryz.prog 3 R b n D):∃ l:List Int,l.Pairwise (· ≠ ·)∧l.length=Maps.size D∧(∀ x,x∈l↔Maps.has D (.int .i64 x)=true)∧∀ x,x∈l→I64 x:=by
 obtain ⟨es,hD,hp,hk⟩:=h.entries keyI
 have hint:∀ p∈es,∃ x,p.1=.int .i64 x∧I64 x:=by
  obtain ⟨es',clock,_,F,_,hD'⟩:=h;rw [hD] at hD'
  cases hD'
  intro p hp
  obtain ⟨x,hx,rfl⟩:=List.mem_map.1 (mem_sorted.1 hp);obtain ⟨y,hy⟩:=F.reads x hx;obtain ⟨k,_,hk,hw⟩:=Maps.keyOf_int_inv Tryz.underlying3 (WideElems.rd_key hy);rw [WideElems.rg_of hy]
  exact ⟨k,hk,wfI hw⟩
 refine ⟨es.map (fun p=>match p.1 with | .int _ x=>x | _=>0),?_,?_,?_,?_⟩
 ·rw [List.pairwise_map]
  refine List.Pairwise.imp_of_mem ?_ hp
  intro p q hp hq hne
  obtain ⟨x,hx,_⟩:=hint p hp;obtain ⟨y,hy,_⟩:=hint q hq;rw [hx,hy] at hne;rw [hx,hy]
  simpa using hne
 ·rw [hD];simp [Maps.size]
 ·intro x
  rw [hD,Maps.has_eq,List.any_eq_true]
  constructor
  ·intro hx
   obtain ⟨p,hp,e⟩:=List.mem_map.1 hx;obtain ⟨y,hy,_⟩:=hint p hp;rw [hy] at e
   simp at e
   subst e
   exact ⟨p,hp,by rw [hy];exact WideAt.sameKey_self (keyLit _)⟩
  ·rintro ⟨p,hp,hs⟩
   have:=WideAt.sameKey_eq hs
   exact List.mem_map.2 ⟨p,hp,by rw [this]⟩
 ·intro x hx
  obtain ⟨p,hp,e⟩:=List.mem_map.1 hx;obtain ⟨y,hy,hw⟩:=hint p hp;rw [hy] at e
  simp at e
  rw [←e]
  exact hw
theorem size_leV (h:w.ownsMap Tryz.prog 3 R b n D) (L:List Int) (hL:∀ x,Maps.has D (.int .i64 x)=true→x∈L):Maps.size D≤L.length:=by
 obtain ⟨l,hp,hl,hm,_⟩:=keys_ofV h;rw [←hl]
 exact nodup_len l L hp fun x hx=>hL x ((hm x).1 hx)
end

variable {w:World} {b:Nat} {f:Int→Option Value}
theorem MapV.lt (h:MapV w b f):b < w.heap.size:=let ⟨_,h,_⟩:=h;h.lt
theorem MapV.keep {w':World} {ks:Nat→Prop} (h:MapV w b f) (hc:Chg w w' ks) (hn : ¬ ks b):MapV w' b f:=by
 obtain ⟨D,⟨es,clock,hb,r⟩,k⟩:=h
 exact ⟨D,⟨es,clock,hc.keep hb hn,r⟩,k⟩
theorem MapV.cong {g:Int→Option Value} (h:MapV w b f) (hs:∀ x,f x=g x):MapV w b g:=by
 have:f=g:=funext hs
 exact this ▸ h
theorem MapV.isMap (h:MapV w b f):∃ es clock,w.heap[b]? = some (.map es clock):=by
 obtain ⟨D,⟨es,clock,h,_⟩,_⟩:=h
 exact ⟨es,clock,h⟩
theorem MapV.made (w:World):MapV (w.alloc (.map #[] 0)) w.heap.size (fun _=>none) :=
 ⟨.map [],World.ownsMap_made w Tryz.prog 3 decV,fun x=>by simp [Maps.has],fun x c h=>by cases h⟩
def Zs:List Int:=List.replicate 128 0
def SA (s:List Int):Array Value:=(s.map (Value.int .u8)).toArray
theorem zeroB (w:World):(zeroValue 131).run Tryz.prog w=.ok (.agg (SA Zs)) w:=by kernel_rfl
theorem zeroN (w:World):(zeroValue 87).run Tryz.prog w=.ok (.pointer none) w:=by kernel_rfl
theorem MapV.lookB (h:MapV w b f) {x:Int} (hx:I64 x):(Instr.lookup 103 (.map (some b)) (.int .i64 x) false).run Tryz.prog w=.ok (match f x with | some v=>v | none=>.agg (SA Zs)) w:=by
 obtain ⟨D,h,hh,ha⟩:=h;obtain ⟨v,ps,hrun,hv⟩:=h.lookup keyI Tryz.underlying103 (zeroB w) (zd:=.held (.agg (SA Zs))) (zp:=[]) rfl (keyOfI hx);rw [hrun]
 have hz:DataW.held v=D.atKey (.int .i64 x) (.held (.agg (SA Zs))):=by
  have:decV v=some (.held v,[]):=rfl;rw [this] at hv
  simpa using congrArg (fun o=>o.map Prod.fst) hv
 cases hf:f x with
 | none =>
  have h0:Maps.has D (.int .i64 x)=false:=by rw [hh x,hf];rfl
  rw [Maps.atKey_of_not_has h0] at hz
  cases hz
  rfl
 | some u =>
  rw [ha x u hf] at hz
  cases hz
  rfl
theorem MapV.look_okB (h:MapV w b f) {x:Int} (hx:I64 x):(Instr.lookup 103 (.map (some b)) (.int .i64 x) true).run Tryz.prog w=.ok (.tuple #[match f x with | some v=>v | none=>.agg (SA Zs),.bool (f x).isSome]) w:=by
 obtain ⟨D,h,hh,ha⟩:=h;obtain ⟨v,ps,hrun,hv⟩:=h.look_ok keyI Tryz.underlying103 (zeroB w) (zd:=.held (.agg (SA Zs))) (zp:=[]) rfl (keyOfI hx);rw [hrun,hh x]
 have hz:DataW.held v=D.atKey (.int .i64 x) (.held (.agg (SA Zs))):=by
  have:decV v=some (.held v,[]):=rfl;rw [this] at hv
  simpa using congrArg (fun o=>o.map Prod.fst) hv
 cases hf:f x with
 | none =>
  have h0:Maps.has D (.int .i64 x)=false:=by rw [hh x,hf];rfl
  rw [Maps.atKey_of_not_has h0] at hz
  cases hz
  rfl
 | some u =>
  rw [ha x u hf] at hz
  cases hz
  rfl
theorem MapV.storeB (h:MapV w b f) {x:Int} (hx:I64 x) (v:Value) (hf:∃ L:List Int,L.length≤5000∧∀ x,(f x).isSome=true→x∈L) :
  ∃ w',(Instr.mapUpdate 103 (.map (some b)) (.int .i64 x) v).run Tryz.prog w=.ok () w'∧MapV w' b (fun y=>if y=x then some v else f y)∧Chg w w' (· = b)∧w'.heap.size=w.heap.size:=by
 obtain ⟨D,h,hh,ha⟩:=h;obtain ⟨L,hL,hm⟩:=hf;have hs:=size_leV h L (fun y hy=>hm y ((hh y).symm.trans hy));obtain ⟨w',hrun,ho,ht⟩:=h.store keyI Tryz.underlying103 (by unfold maxLen;omega) (keyOfI hx) (d:=.held v) (ps:=[]) (val:=v) rfl;obtain ⟨h1,h2⟩:=turned_chg ht;refine ⟨w',hrun,⟨_,tightV ho,fun y => ?_,fun y c hc z => ?_⟩,h1,h2⟩
 ·by_cases hy:y=x
  ·subst hy
   simp [Maps.has_put_same h.isMap (keyLit y)]
  ·rw [Maps.has_put_other (by simpa using hy),hh y]
   simp [hy]
 ·by_cases hy:y=x
  ·subst hy
   simp at hc
   rw [Maps.atKey_put_same h.isMap (keyLit y),hc]
  ·rw [Maps.atKey_put_other (by simpa using hy)]
   simp [hy] at hc
   exact ha y c hc z
section
variable {ops:Array Oper} {rest:List Oper} {o:Oper} {a:Act} {Q:Exit→Act→World→Prop}
theorem wp_lookVB (hg:o.guard=none) (m x:Operand) (hop:o.op=Op.lookup 103 m x false) (b:Nat) (f:Int→Option Value) (k:Int) (c:Value) (hc:(match f k with | some v=>v | none=>.agg (SA Zs))=c) (hm:a.eval m=.map (some b)) (hx:a.eval x=.int .i64 k)
  (h:MapV w b f) (hk:I64 k) (hK:wpList Tryz.prog ops Q rest (a.put o.dst c) w):wpList Tryz.prog ops Q (o :: rest) a w:=by
 subst hc
 refine wpList_plain hg fun K' hK' => ?_
 unfold Oper.wp
 simp [execOp,hop,hm,hx,h.lookB hk,Result.andThen]
 exact hK' _ _ hK
theorem wp_okVB (hg:o.guard=none) (m x:Operand) (hop:o.op=Op.lookup 103 m x true) (b:Nat) (f:Int→Option Value) (k:Int) (c:Value) (r:Bool) (hc:(match f k with | some v=>v | none=>.agg (SA Zs))=c) (hr:(f k).isSome=r) (hm:a.eval m=.map (some b)) (hx:a.eval x=.int .i64 k)
  (h:MapV w b f) (hk:I64 k) (hK:wpList Tryz.prog ops Q rest (a.put o.dst (.tuple #[c,.bool r])) w):wpList Tryz.prog ops Q (o :: rest) a w:=by
 subst hc hr
 refine wpList_plain hg fun K' hK' => ?_
 unfold Oper.wp
 simp [execOp,hop,hm,hx,h.look_okB hk,Result.andThen]
 exact hK' _ _ hK
end

theorem MapV.lookN (h:MapV w b f) {x:Int} (hx:I64 x):(Instr.lookup 80 (.map (some b)) (.int .i64 x) false).run Tryz.prog w=.ok (match f x with | some v=>v | none=>.pointer none) w:=by
 obtain ⟨D,h,hh,ha⟩:=h;obtain ⟨v,ps,hrun,hv⟩:=h.lookup keyI Tryz.underlying80 (zeroN w) (zd:=.held (.pointer none)) (zp:=[]) rfl (keyOfI hx);rw [hrun]
 have hz:DataW.held v=D.atKey (.int .i64 x) (.held (.pointer none)):=by
  have:decV v=some (.held v,[]):=rfl;rw [this] at hv
  simpa using congrArg (fun o=>o.map Prod.fst) hv
 cases hf:f x with
 | none =>
  have h0:Maps.has D (.int .i64 x)=false:=by rw [hh x,hf];rfl
  rw [Maps.atKey_of_not_has h0] at hz
  cases hz
  rfl
 | some u =>
  rw [ha x u hf] at hz
  cases hz
  rfl
theorem MapV.storeN (h:MapV w b f) {x:Int} (hx:I64 x) (v:Value) (hf:∃ L:List Int,L.length≤5000∧∀ x,(f x).isSome=true→x∈L) :
  ∃ w',(Instr.mapUpdate 80 (.map (some b)) (.int .i64 x) v).run Tryz.prog w=.ok () w'∧MapV w' b (fun y=>if y=x then some v else f y)∧Chg w w' (· = b)∧w'.heap.size=w.heap.size:=by
 obtain ⟨D,h,hh,ha⟩:=h;obtain ⟨L,hL,hm⟩:=hf;have hs:=size_leV h L (fun y hy=>hm y ((hh y).symm.trans hy));obtain ⟨w',hrun,ho,ht⟩:=h.store keyI Tryz.underlying80 (by unfold maxLen;omega) (keyOfI hx) (d:=.held v) (ps:=[]) (val:=v) rfl;obtain ⟨h1,h2⟩:=turned_chg ht;refine ⟨w',hrun,⟨_,tightV ho,fun y => ?_,fun y c hc z => ?_⟩,h1,h2⟩
 ·by_cases hy:y=x
  ·subst hy
   simp [Maps.has_put_same h.isMap (keyLit y)]
  ·rw [Maps.has_put_other (by simpa using hy),hh y]
   simp [hy]
 ·by_cases hy:y=x
  ·subst hy
   simp at hc
   rw [Maps.atKey_put_same h.isMap (keyLit y),hc]
  ·rw [Maps.atKey_put_other (by simpa using hy)]
   simp [hy] at hc
   exact ha y c hc z
theorem MapV.delN (h:MapV w b f) {x:Int} (hx:I64 x) (ty:TypeId) :
  ∃ w',(Builtin.delete_ #[80,3] ty #[.map (some b),.int .i64 x]).run Tryz.prog w=.ok (.tuple #[]) w'∧MapV w' b (fun y=>if y=x then none else f y)∧Chg w w' (· = b)∧w'.heap.size=w.heap.size:=by
 obtain ⟨D,h,hh,ha⟩:=h;obtain ⟨w',hrun,ho,ht⟩:=h.drop keyI Tryz.underlying80 (keyOfI hx) ty;obtain ⟨h1,h2⟩:=turned_chg ht;refine ⟨w',hrun,⟨_,tightV ho,fun y => ?_,fun y c hc z => ?_⟩,h1,h2⟩
 ·by_cases hy:y=x
  ·subst hy
   simp [Maps.has_del_same]
  ·rw [Maps.has_del_other (by simpa using hy),hh y]
   simp [hy]
 ·by_cases hy:y=x
  ·subst hy
   simp at hc
  ·rw [Maps.atKey_del_other (by simpa using hy)]
   simp [hy] at hc
   exact ha y c hc z

section
variable {ops:Array Oper} {rest:List Oper} {o:Oper} {a:Act} {Q:Exit→Act→World→Prop}
theorem wp_lookVN (hg:o.guard=none) (m x:Operand) (hop:o.op=Op.lookup 80 m x false) (b:Nat) (f:Int→Option Value) (k:Int) (c:Value) (hc:(match f k with | some v=>v | none=>.pointer none)=c) (hm:a.eval m=.map (some b)) (hx:a.eval x=.int .i64 k)
  (h:MapV w b f) (hk:I64 k) (hK:wpList Tryz.prog ops Q rest (a.put o.dst c) w):wpList Tryz.prog ops Q (o :: rest) a w:=by
 subst hc
 refine wpList_plain hg fun K' hK' => ?_
 unfold Oper.wp
 simp [execOp,hop,hm,hx,h.lookN hk,Result.andThen]
 exact hK' _ _ hK
theorem wp_delVN (hg:o.guard=none) (m x:Operand) (hop:o.op=Op.call { callee:=Callee.builtin Builtin.delete,args:=#[m,x],argTypes:=#[80,3] }) (b:Nat) (f:Int→Option Value) (k:Int) (hm:a.eval m=.map (some b)) (hx:a.eval x=.int .i64 k)
  (h:MapV w b f) (hk:I64 k)
  (hK:∀ w',MapV w' b (fun y=>if y=k then none else f y)→Chg w w' (· = b)→w'.heap.size=w.heap.size→wpList Tryz.prog ops Q rest (a.put o.dst (.tuple #[])) w'):wpList Tryz.prog ops Q (o :: rest) a w:=by
 refine wpList_plain hg fun K' hK' => ?_
 obtain ⟨w',hrun,r1,r2,r3⟩:=h.delN hk o.type;unfold Oper.wp
 simp [execOp,hop,resolve,invoke,builtin,hm,hx,hrun,Result.andThen]
 exact hK' _ _ (hK w' r1 r2 r3)
end


def RangeV (w:World) (b r:Nat) (f:Int→Option Value) (left:Int→Prop) (cnt:Nat):Prop :=
 ∃ (D:DataW Value) (lf:Lit→Bool),w.ranges Tryz.prog 3 decV b r (Maps.size D) D lf cnt∧(∀ x,Maps.has D (.int .i64 x)=(f x).isSome)∧(∀ x c,f x=some c→∀ z,D.atKey (.int .i64 x) z=.held c)∧∀ x,lf (.int .i64 x)=true↔left x
section
variable {w w':World} {b r:Nat} {f:Int→Option Value} {left:Int→Prop} {cnt:Nat}
theorem RangeV.leftN (h:RangeV w b r f left cnt):w.rangeLeft b r=cnt:=by
 obtain ⟨D,lf,h,_⟩:=h;exact h.left_eq
theorem RangeV.keep {ks:Nat→Prop} (h:RangeV w b r f left cnt) (hc:Chg w w' ks) (hb : ¬ ks b) (hr : ¬ ks r):RangeV w' b r f left cnt:=by
 obtain ⟨D,lf,h,k⟩:=h;obtain ⟨es,clock,since,seen,c0,e1,F,hs,hD,e2,rest⟩:=h
 exact ⟨D,lf,⟨es,clock,since,seen,c0,hc.keep e1 hb,F,hs,hD,hc.keep e2 hr,rest⟩,k⟩
end
section
variable {ops:Array Oper} {rest:List Oper} {o:Oper} {a:Act} {Q:Exit→Act→World→Prop} {w:World}
theorem wp_rangeV (t e:TypeId) (hu:Tryz.prog.underlying t=some (.map 3 e)) (hg:o.guard=none) (m:Operand) (hop:o.op=Op.range t m) (b:Nat) (f:Int→Option Value) (hm:a.eval m=.map (some b)) (h:MapV w b f)
  (hK:∀ w' cnt,RangeV w' b w.heap.size f (fun x=>(f x).isSome=true) cnt→Chg w w' No→w'.heap.size=w.heap.size + 1→wpList Tryz.prog ops Q rest (a.put o.dst (.pointer (some ⟨w.heap.size,0,none⟩))) w'):wpList Tryz.prog ops Q (o :: rest) a w:=by
 obtain ⟨D,h,hh,ha⟩:=h;refine wpList_range_own w hg m t hop 3 e keyI hu decV b _ D hm h ?_
 intro w' hr hgr hs
 exact hK w' _ ⟨D,_,hr,hh,ha,fun x=>by rw [hh x]⟩ ((Chg.grown hgr).mono fun j _ e=>by cases e) hs
theorem wp_nextV (hg:o.guard=none) (it:Operand) (hop:o.op=Op.next it false) (b r:Nat) (f:Int→Option Value) (left:Int→Prop) (cnt:Nat) (hit:a.eval it=.pointer (some ⟨r,0,none⟩)) (h:RangeV w b r f left cnt)
  (hDone:(∀ x,¬ left x)→wpList Tryz.prog ops Q rest (a.put o.dst (.tuple #[.bool false])) w)
  (hMore:∀ (x:Int) (d:Value) (w':World) (cnt':Nat),left x→f x=some d→I64 x→RangeV w' b r f (fun y=>left y∧y≠x) cnt'→cnt' < cnt→Chg w w' (· = r)→w'.heap.size=w.heap.size →
   (Instr.entry (.pointer (some ⟨r,0,none⟩))).run Tryz.prog w'=.ok (.tuple #[.int .i64 x,d]) w'→wpList Tryz.prog ops Q rest (a.put o.dst (.tuple #[.bool true,.int .i64 x,d])) w'):wpList Tryz.prog ops Q (o :: rest) a w:=by
 obtain ⟨D,lf,h,hh,ha,hl⟩:=h;refine wpList_next_ranges w hg it hop 3 keyI decV (Value.int .i64) id (fun key kl hkey=>by obtain ⟨x,rfl,_⟩:=Maps.keyOf_int_inv Tryz.underlying3 hkey;exact ⟨x,rfl⟩) (fun v y hv=>⟨v,rfl⟩)
  b r _ D lf cnt hit h (fun _ k=>hDone fun x hx=>absurd ((hl x).2 hx) (by rw [k];simp)) ?_
 intro x c kl y w' cnt' hkey hlk hv hat hrg hlt hgr hsz hen
 obtain ⟨x',ex,rfl,hwx⟩:=Maps.keyOf_int_inv Tryz.underlying3 hkey
 cases ex
 have hhas:Maps.has D (.int .i64 x)=true:=Maps.has_true_of_atKey hat;rw [hh x] at hhas;obtain ⟨d,hd⟩:=Option.isSome_iff_exists.1 hhas
 have hc:c=d:=by
  have e1:decV (id c)=some (.held c,[]):=rfl;rw [e1] at hv
  cases hv
  have e3:=hat (.lit (.int .i64 0));rw [ha x d hd] at e3
  cases e3
  rfl
 subst hc;refine hMore x c w' cnt' ((hl x).1 hlk) hd (wfI hwx) ⟨D,_,hrg,hh,ha,fun y => ?_⟩ hlt ((Chg.grown hgr).mono fun j _ e=>by simpa using e) hsz hen
 by_cases hy:y=x
 ·subst hy
  simp [WideAt.sameKey_self (keyLit y)]
 ·have hk:(Lit.int .i64 y).sameKey (.int .i64 x)=false:=Maps.sameKey_ne (by simpa using hy)
  simp [hk,hl y,hy]
end
end Go.Proofs.YtmgfilacepnjlaaGreatDoor
