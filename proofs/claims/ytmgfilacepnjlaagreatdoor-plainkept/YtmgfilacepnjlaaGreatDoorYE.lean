/-
 PlainKept's model in memory: it is turned.
-/
import Derived.Test.YtmgfilacepnjlaaGreatDoorYD
namespace Go.Proofs.YtmgfilacepnjlaaGreatDoor
open Go.RowKit

theorem row_set {w:World} {B k g n cp:Nat} {t:TypeId} {xs:List Value} (h:w.ownsRow B t k (.slice (some ⟨g,0,none⟩) n cp) n xs) {j:Nat} {u:Value}:(w.setCell ⟨g,j,none⟩ u).ownsRow B t k (.slice (some ⟨g,0,none⟩) n cp) n (xs.set j u):=by
 refine ⟨by rw [List.length_set];exact h.1,.inr ?_⟩
 rcases h.2 with ⟨e,_⟩ | ⟨g',cap,cur,e,hb,hg,hc,hm,hs,ht⟩
 ·cases e
 ·cases e
  refine ⟨g,cp,cur.setIfInBounds j u,rfl,hb,heap_setCell_same w g j cur _ _ hg,hc,hm,by rw [Array.size_setIfInBounds];exact hs,?_⟩;rw [Array.toList_setIfInBounds,List.take_set,ht]
theorem flat_set {α:Type} (f:α→List Value) (k:Nat) (hk:∀ x,(f x).length=k):∀ {l:List α} {i r:Nat} {x y:α} {u:Value},l[i]? = some x→r < k→f y=(f x).set r u→(l.set i y).flatMap f=(l.flatMap f).set (i * k + r) u
 | [],_,_,_,_,_,h,_,_=>by cases h
 | e :: l,0,r,x,y,u,h,hr,hf=>by
  cases h
  rw [List.set_cons_zero,List.flatMap_cons,List.flatMap_cons,Nat.zero_mul,Nat.zero_add,List.set_append_left _ _ (by rw [hk];exact hr),hf]
 | e :: l,i + 1,r,x,y,u,h,hr,hf=>by
  rw [List.set_cons_succ,List.flatMap_cons,List.flatMap_cons,List.set_append_right _ _ (by rw [hk,Nat.add_mul];omega),hk,show (i + 1) * k + r - k=i * k + r by rw [Nat.add_mul];omega];rw [flat_set f k hk (l:=l) h hr hf]
theorem zip_set {α β:Type}:∀ {l:List α} {m:List β} {i:Nat} {x:α} {y:β},(l.set i x).zip (m.set i y)=(l.zip m).set i (x,y)
 | [],_,_,_,_=>rfl
 | _ :: _,[],i,_,_=>by cases i <;> rfl
 | a :: l,b :: m,0,x,y=>rfl
 | a :: l,b :: m,i + 1,x,y=>by
  rw [List.set_cons_succ,List.set_cons_succ,List.zip_cons_cons,zip_set,List.zip_cons_cons,List.set_cons_succ]
section
variable {w:World} {B:Nat} {c:MC} {m:Mo}
theorem row_other {w':World} {g k n:Nat} {t T:TypeId} {v:Value} {xs:List Value} {A:Array Value} (hg:w.heap[g]? = some (.cells A T (0,0))) (hc:Chg w w' (· = g)) (hT:T≠t) (h:w.ownsRow B t k v n xs):w'.ownsRow B t k v n xs :=
 row_keep h fun g' A' h'=>hc.keep h' fun e=>hT (by
  rw [e,hg] at h'
  injection h' with h'
  injection h')
theorem BRow.other {w':World} {g:Nat} {T:TypeId} {A:Array Value} {b:Option Addr × Nat} {l:List Int} (hg:w.heap[g]? = some (.cells A T (0,0))) (hc:Chg w w' (· = g)) (hT:T≠5) (h:BRow w b l):BRow w' b l :=
 h.rows hc.size fun g' A' h'=>hc.keep h' fun e=>hT (by
  rw [e,hg] at h'
  injection h' with h'
  injection h')
theorem IsMo.setP (h:IsMo w B c m) {v:Value} {ps:List (List ByteArray × Int)} (ho:w.ownsRow B 76 2 v ps.length (ps.flatMap enC)):IsMo (w.setCell ⟨c.g,1,none⟩ v) B { c with pv:=v } { m with paths:=ps } :=
 have hc:Chg w (w.setCell ⟨c.g,1,none⟩ v) (· = c.g):=Chg.setCell
 ⟨h.gB,heap_setCell_same w c.g 1 _ _ _ h.me,h.bn,row_other h.me hc (by decide) h.th,row_other h.me hc (by decide) ho,fun x hx=>(h.bt x hx).other h.me hc (by decide)⟩
theorem IsMo.setN (h:IsMo w B c m) {n:Int}:IsMo (w.setCell ⟨c.g,2,none⟩ (.int .i64 n)) B c { m with next:=n } :=
 have hc:Chg w (w.setCell ⟨c.g,2,none⟩ (.int .i64 n)) (· = c.g):=Chg.setCell
 ⟨h.gB,heap_setCell_same w c.g 2 _ _ _ h.me,h.bn,row_other h.me hc (by decide) h.th,row_other h.me hc (by decide) h.pa,fun x hx=>(h.bt x hx).other h.me hc (by decide)⟩
theorem IsMo.setE (h:IsMo w B c m) {j:Nat} {e:List ByteArray × Int} (hj:m.paths[j]? = some e) {ls:List ByteArray} {g cp:Nat} (hv:c.pv=.slice (some ⟨g,0,none⟩) m.paths.length cp) {A:Array Value} (hg:w.heap[g]? = some (.cells A 76 (0,0))):IsMo (w.setCell ⟨g,j * 2,none⟩ (.string (TP ls))) B c { m with paths:=m.paths.set j (ls,e.2) }:=by
 have hc:Chg w (w.setCell ⟨g,j * 2,none⟩ (.string (TP ls))) (· = g):=Chg.setCell;have hp:=h.pa;rw [hv] at hp;refine ⟨h.gB,hc.keep h.me (fun e1 => ?_),h.bn,row_other hg hc (by decide) h.th,?_,fun x hx=>(h.bt x hx).other hg hc (by decide)⟩
 ·have h1:=h.me
  rw [e1,hg] at h1
  injection h1 with h1
  injection h1 with h2 h3
  exact absurd h3 (by decide)
 ·show World.ownsRow _ B 76 2 c.pv (m.paths.set j (ls,e.2)).length _
  rw [hv,List.length_set];have hr:=row_set (j:=j * 2 + 0) (u:=.string (TP ls)) hp;rw [←flat_set enC 2 (fun _=>rfl) hj (by decide) (y:=(ls,e.2)) rfl] at hr
  exact hr
theorem IsMo.setB (h:IsMo w B c m) {j:Nat} {t:Th} (hj:m.things[j]? = some t) {bs:List Int} {a:Option Addr} {q:Nat} {g cp:Nat} (hv:c.tv=.slice (some ⟨g,0,none⟩) m.things.length cp) {A:Array Value} (hg:w.heap[g]? = some (.cells A 74 (0,0))) (hb:BRow w (a,q) bs):IsMo (w.setCell ⟨g,j * 4 + 3,none⟩ (.slice a bs.length q)) B { c with bv:=c.bv.set j (a,q) } { m with things:=m.things.set j { t with bytes:=bs } }:=by
 have hc:Chg w (w.setCell ⟨g,j * 4 + 3,none⟩ (.slice a bs.length q)) (· = g):=Chg.setCell;have hp:=h.th;rw [hv] at hp;obtain ⟨b,hb1,hz⟩:=h.zip hj;refine ⟨h.gB,hc.keep h.me (fun e1 => ?_),by show (c.bv.set j _).length=(m.things.set j _).length;rw [List.length_set,List.length_set];exact h.bn,?_,row_other hg hc (by decide) h.pa,fun x hx => ?_⟩
 ·have h1:=h.me
  rw [e1,hg] at h1
  injection h1 with h1
  injection h1 with h2 h3
  exact absurd h3 (by decide)
 ·show World.ownsRow _ B 74 4 c.tv (m.things.set j _).length (((m.things.set j { t with bytes:=bs }).zip (c.bv.set j (a,q))).flatMap thC)
  rw [hv,List.length_set,zip_set];have hr:=row_set (j:=j * 4 + 3) (u:=.slice a bs.length q) hp;rw [←flat_set thC 4 (fun _=>rfl) hz (by decide) (y:=({ t with bytes:=bs },(a,q))) rfl] at hr
  exact hr
 ·have hx:x∈(m.things.set j { t with bytes:=bs }).zip (c.bv.set j (a,q)):=hx
  rw [zip_set] at hx
  rcases List.mem_or_eq_of_mem_set hx with h1 | rfl
  ·exact (h.bt x h1).other hg hc (by decide)
  ·exact hb.other hg hc (by decide)
theorem IsMo.loadE (h:IsMo w B c m) {j:Nat} {e:List ByteArray × Int} (hj:m.paths[j]? = some e) {g cp:Nat} (hv:c.pv=.slice (some ⟨g,0,none⟩) m.paths.length cp):(loadVar 76 ⟨g,j * 2,none⟩).run Tryz.prog w=.ok (.agg #[.string (TP e.1),.int .i64 e.2]) w:=by
 obtain ⟨g',cp',h1,h2,h3,h4,h5⟩:=h.path hj;rw [hv] at h1
 cases h1
 have h:=run_loadVar_mid (P:=Tryz.prog) w g (j * 2) 76 [.string (TP e.1),.int .i64 e.2] _ (fun k v hk=>by
  match k,hk with
  | 0,hk=>cases hk;exact h4
  | 1,hk=>cases hk;exact h5) Tryz.underlying76 rfl (by kernel_rfl)
 simpa using h
theorem IsMo.loadT (h:IsMo w B c m) {j:Nat} {t:Th} (hj:m.things[j]? = some t) {b:Option Addr × Nat} (hb:c.bv[j]? = some b) {g cp:Nat} (hv:c.tv=.slice (some ⟨g,0,none⟩) m.things.length cp):(loadVar 74 ⟨g,j * 4,none⟩).run Tryz.prog w=.ok (.agg #[.int .i64 t.id,.bool t.dir,.int .i64 t.made,.slice b.1 t.bytes.length b.2]) w:=by
 obtain ⟨g',cp',b',h1,h2,h3,h4,_,h5,h6,h7,h8⟩:=h.thing hj;rw [hv] at h1
 cases h1
 rw [hb] at h4
 cases h4
 have h:=run_loadVar_mid (P:=Tryz.prog) w g (j * 4) 74 [.int .i64 t.id,.bool t.dir,.int .i64 t.made,.slice b.1 t.bytes.length b.2] _ (fun k v hk=>by
  match k,hk with
  | 0,hk=>cases hk;exact h5
  | 1,hk=>cases hk;exact h6
  | 2,hk=>cases hk;exact h7
  | 3,hk=>cases hk;exact h8) Tryz.underlying74 rfl (by kernel_rfl)
 simpa using h
end
section
variable {ops:Array Oper} {rest:List Oper} {o:Oper} {a:Act} {w:World} {Q:Exit→Act→World→Prop}
theorem infoEt:∃ i,Tryz.prog.info? 76=some i∧i.zero=some (.agg #[.string ⟨#[]⟩,.int .i64 0])∧i.size=2∧i.bytes=24:=by
 have h:(Tryz.prog.info? 76).map (fun i=>(i.zero,i.size,i.bytes))=some (some (.agg #[.string ⟨#[]⟩,.int .i64 0]),2,24):=by kernel_rfl
 cases hq:Tryz.prog.info? 76 with
 | none=>rw [hq] at h;cases h
 | some i =>
  rw [hq] at h;have h:=Option.some.inj h
  simp only [Prod.mk.injEq] at h
  exact ⟨i,rfl,h.1,h.2.1,h.2.2⟩
theorem infoTh:∃ i,Tryz.prog.info? 74=some i∧i.zero=some (.agg #[.int .i64 0,.bool false,.int .i64 0,.slice none 0 0])∧i.size=4∧i.bytes=48:=by
 have h:(Tryz.prog.info? 74).map (fun i=>(i.zero,i.size,i.bytes))=some (some (.agg #[.int .i64 0,.bool false,.int .i64 0,.slice none 0 0]),4,48):=by kernel_rfl
 cases hq:Tryz.prog.info? 74 with
 | none=>rw [hq] at h;cases h
 | some i =>
  rw [hq] at h;have h:=Option.some.inj h
  simp only [Prod.mk.injEq] at h
  exact ⟨i,rfl,h.1,h.2.1,h.2.2⟩
theorem wp_appEt (hg:o.guard=none) (s x:Operand) (hop:o.op=.call { callee:=.builtin .append,args:=#[s,x],argTypes:=#[29,29] }) (B g c:Nat) (v:Value) (es:List (List ByteArray × Int)) (t:ByteArray) (ls:List ByteArray) (j:Int) (hs:a.eval s=v) (hx:a.eval x=.slice (some ⟨g,0,none⟩) 1 c)
  (hown:w.ownsRow B 76 2 v es.length (es.flatMap enC)) (ht:t=TP ls) (hat:w.heap[g]? = some (.cells #[.string t,.int .i64 j] 76 (0,0))) (hl:es.length≤2199023255552) (hB:B≤w.heap.size)
  (hK:∀ v' w',w'.ownsRow B 76 2 v' (es ++ [(ls,j)]).length ((es ++ [(ls,j)]).flatMap enC)→Chg w w' (fun k=>v.ownBlock=some k)→wpList Tryz.prog ops Q rest (a.put o.dst v') w'):wpList Tryz.prog ops Q (o :: rest) a w:=by
 obtain ⟨i,hi,hz,hsz,hby⟩:=infoEt;subst ht;refine wpList_append_own_at w hg s x 29 hop B 76 i _ 2 24 Tryz.underlying29 hi hz hsz hby rfl (by decide) v es.length (es.flatMap enC) hs hown ⟨g,0,none⟩ 1 c (enC (ls,j)) hx rfl (fun k u hj => ?_) (fun u hu => ?_) (by unfold maxLen;omega) (by omega) hB ?_
 ·rw [addr_add,Nat.zero_add,cell_of_row _ _ _ _ _ _ hat]
  simpa [enC] using hj
 ·simp only [enC,List.mem_cons,List.not_mem_nil,or_false] at hu
  rcases hu with rfl | rfl <;> rfl
 ·intro v' w' h1 h2 _ _
  refine hK v' w' ?_ ((Chg.grown h2).mono fun j _ e=>e.symm);rw [List.length_append,List.flatMap_append]
  simpa using h1
end
end Go.Proofs.YtmgfilacepnjlaaGreatDoor
