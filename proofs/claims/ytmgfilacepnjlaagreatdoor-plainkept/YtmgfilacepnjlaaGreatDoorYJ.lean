/-
 PlainKept's model: something is made.
-/
import Derived.Test.YtmgfilacepnjlaaGreatDoorYG
namespace Go.Proofs.YtmgfilacepnjlaaGreatDoor
open Go.RowKit Go.PlainAid

section
variable {ops:Array Oper} {Q:Exit→Act→World→Prop} {S:World→Prop} {fuel:Nat} {listed:Array Bool} {a:Act} {w:World}
theorem stAppEt (i d:Nat) {o:Oper} (hop:ops[i]? = some o) (hd:o.dst=some d) (hw:Region.wanted o (yielded ops a.tmps)=true) (s x:Operand)
  (ho:o.op=.call { callee:=.builtin .append,args:=#[s,x],argTypes:=#[29,29] }) (B b ca:Nat) (v:Value) (es:List (List ByteArray × Int)) (t:ByteArray) (ls:List ByteArray) (j:Int) (hs:a.eval s=v) (hx:a.eval x=.slice (some ⟨b,0,none⟩) 1 ca)
  (hown:w.ownsRow B 76 2 v es.length (es.flatMap enC)) (ht:t=TP ls) (hb:w.heap[b]? = some (.cells #[.string t,.int .i64 j] 76 (0,0))) (hl:es.length≤2199023255552) (hbase:B≤w.heap.size)
  (h:∀ v' w',w'.ownsRow B 76 2 v' (es ++ [(ls,j)]).length ((es ++ [(ls,j)]).flatMap enC)→Chg w w' (fun k=>v.ownBlock=some k) →
   S w'∧wpAnyH Tryz.prog .any ops Q S fuel (listed.setIfInBounds i true) { a with tmps:=a.tmps.setIfInBounds d v' } w'):St ops Q S fuel listed a w i:=by
 obtain ⟨inf,hi,hz,hsz,hby⟩:=infoEt;subst ht
 obtain ⟨v',w',hr,h2,h3,_,_⟩:=run_append_own_at (P:=Tryz.prog) w B 29 o.type 76 inf _ 2 24 Tryz.underlying29 hi hz hsz hby rfl (by decide) v es.length (es.flatMap enC) hown ⟨b,0,none⟩ 1 ca (enC (ls,j)) rfl (fun k u hj=>by
   rw [addr_add,Nat.zero_add,cell_of_row _ _ _ _ _ _ hb]
   simpa [enC] using hj) (fun u hu=>by
   simp only [enC,List.mem_cons,List.not_mem_nil,or_false] at hu
   rcases hu with rfl | rfl <;> rfl) (by unfold maxLen;omega) (by omega) hbase
 have hh:=h v' w' (by rw [List.length_append,List.flatMap_append];simpa using h2) ((Chg.grown h3).mono fun j _ e=>e.symm);refine wpOp_step hop (fun K hK => ?_);rw [if_pos hw];unfold Oper.wp execOp
 simp only [ho,resolve,invoke,builtin,Sem.run_bind,Sem.run_pure,Result.andThen_ok,List.map_toArray,List.map_cons,List.map_nil,hs,hx,hr]
 refine hK _ _ ⟨hh.1,?_⟩;unfold Act.put;rw [hd]
 exact hh.2
theorem stAppTh (i d:Nat) {o:Oper} (hop:ops[i]? = some o) (hd:o.dst=some d) (hw:Region.wanted o (yielded ops a.tmps)=true) (s x:Operand)
  (ho:o.op=.call { callee:=.builtin .append,args:=#[s,x],argTypes:=#[28,28] }) (B b ca:Nat) (v:Value) (es:List (Th × (Option Addr × Nat))) (n:Nat) (id made:Int) (dr:Bool) (hs:a.eval s=v) (hx:a.eval x=.slice (some ⟨b,0,none⟩) 1 ca)
  (hown:w.ownsRow B 74 4 v n (es.flatMap thC)) (hn:n=es.length) (hb:w.heap[b]? = some (.cells #[.int .i64 id,.bool dr,.int .i64 made,.slice none 0 0] 74 (0,0))) (hl:es.length≤2199023255552) (hbase:B≤w.heap.size)
  (h:∀ v' w',w'.ownsRow B 74 4 v' (n + 1) ((es ++ [((⟨id,dr,made,[]⟩:Th),((none:Option Addr),(0:Nat)))]).flatMap thC)→Chg w w' (fun k=>v.ownBlock=some k) →
   S w'∧wpAnyH Tryz.prog .any ops Q S fuel (listed.setIfInBounds i true) { a with tmps:=a.tmps.setIfInBounds d v' } w'):St ops Q S fuel listed a w i:=by
 obtain ⟨inf,hi,hz,hsz,hby⟩:=infoTh
 obtain ⟨v',w',hr,h2,h3,_,_⟩:=run_append_own_at (P:=Tryz.prog) w B 28 o.type 74 inf _ 4 48 Tryz.underlying28 hi hz hsz hby rfl (by decide) v n (es.flatMap thC) hown ⟨b,0,none⟩ 1 ca (thC ((⟨id,dr,made,[]⟩:Th),((none:Option Addr),(0:Nat)))) rfl (fun k u hj=>by
   rw [addr_add,Nat.zero_add,cell_of_row _ _ _ _ _ _ hb]
   simpa [thC] using hj) (fun u hu=>by
   simp only [thC,List.mem_cons,List.not_mem_nil,or_false] at hu
   rcases hu with rfl | rfl | rfl | rfl <;> rfl) (by unfold maxLen;omega) (by omega) hbase
 have hh:=h v' w' (by rw [List.flatMap_append];simpa using h2) ((Chg.grown h3).mono fun j _ e=>e.symm);refine wpOp_step hop (fun K hK => ?_);rw [if_pos hw];unfold Oper.wp execOp
 simp only [ho,resolve,invoke,builtin,Sem.run_bind,Sem.run_pure,Result.andThen_ok,List.map_toArray,List.map_cons,List.map_nil,hs,hx,hr]
 refine hK _ _ ⟨hh.1,?_⟩;unfold Act.put;rw [hd]
 exact hh.2
end
def SPa (g bx:Nat) (nx:Int) (X:Array Value) (W:World):Prop:=W.cell? ⟨g,2,none⟩=some (.int .i64 nx)∧W.heap[bx]? = some (.cells X 34 (0,0))
theorem SPa.chg {g bx:Nat} {nx:Int} {X:Array Value} {W W':World} (h:SPa g bx nx X W) (hc:Chg W W' No) (hg:g < W.heap.size):SPa g bx nx X W':=by
 refine ⟨?_,hc.keep h.2 (fun e=>e)⟩;have h1:=h.1;unfold World.cell? at h1 ⊢;rw [hc.block _ hg (fun e=>e)]
 exact h1
theorem SPa.own {g bx:Nat} {nx:Int} {X A:Array Value} {W W':World} {v:Value} {T:TypeId} (h:SPa g bx nx X W) (hc:Chg W W' (fun k=>v.ownBlock=some k)) (hg:W.heap[g]? = some (.cells A 31 (0,0))) (hT:T≠31∧T≠34) {B k n:Nat} {xs:List Value} (ho:W.ownsRow B T k v n xs):SPa g bx nx X W'∧W'.heap[g]? = some (.cells A 31 (0,0)):=by
 have hn:∀ {j:Nat} {A2:Array Value} {T2:TypeId},W.heap[j]? = some (.cells A2 T2 (0,0))→T≠T2→¬ v.ownBlock=some j:=fun {j A2 T2} hj hne e=>by
  rcases ho.2 with ⟨e1,_⟩ | ⟨g1,cap,cur,e1,_,hg1,_⟩
  ·rw [e1] at e;cases e
  ·rw [e1] at e
   have:g1=j:=by simpa [Value.ownBlock] using e
   rw [this,hj] at hg1
   injection hg1 with h2
   injection h2 with h3 h4
   exact hne h4.symm
 have hg2:=hc.keep hg (hn hg hT.1);refine ⟨⟨?_,hc.keep h.2 (hn h.2 hT.2)⟩,hg2⟩;rw [cell_of_row _ _ _ _ _ _ hg2,←cell_of_row _ _ _ _ _ _ hg]
 exact h.1
theorem own_rows {w w':World} {B k n:Nat} {T:TypeId} {v:Value} {xs:List Value} (ho:w.ownsRow B T k v n xs) (hc:Chg w w' (fun k=>v.ownBlock=some k)):∀ (g:Nat) (A:Array Value) (T2:TypeId),T2≠T→w.heap[g]? = some (.cells A T2 (0,0))→w'.heap[g]? = some (.cells A T2 (0,0)):=fun g A T2 hT hg=>hc.keep hg (fun e=>by
 rcases ho.2 with ⟨e1,_⟩ | ⟨g1,cap,cur,e1,_,hg1,_⟩
 ·rw [e1] at e;cases e
 ·rw [e1] at e
  have:g1=g:=by simpa [Value.ownBlock] using e
  rw [this,hg] at hg1
  injection hg1 with h2
  injection h2 with h3 h4
  exact hT h4)
theorem IsMo.growT {w w':World} {B:Nat} {c:MC} {m:Mo} (h:IsMo w B c m) (hc:Chg w w' (fun k=>c.tv.ownBlock=some k)) {v:Value} {t:Th} (ht:t.bytes=[]) (ho:w'.ownsRow B 74 4 v (m.things.length + 1) ((m.things.zip c.bv ++ [(t,((none:Option Addr),(0:Nat)))]).flatMap thC)):IsMo (w'.setCell ⟨c.g,0,none⟩ v) B ⟨c.g,v,c.pv,c.bv ++ [(none,0)]⟩ { m with things:=m.things ++ [t] }∧MCh B w (w'.setCell ⟨c.g,0,none⟩ v):=by
 have hr:=own_rows h.th hc;have hme:=hr _ _ _ (by decide) h.me;have hs:Chg w' (w'.setCell ⟨c.g,0,none⟩ v) (· = c.g):=Chg.setCell
 have ez:(m.things ++ [t]).zip (c.bv ++ [(none,0)])=m.things.zip c.bv ++ [(t,(none,0))]:=by rw [List.zip_append h.bn.symm];rfl
 refine ⟨⟨h.gB,heap_setCell_same w' c.g 0 _ _ _ hme,by show (c.bv ++ _).length=(m.things ++ _).length;rw [List.length_append,List.length_append,h.bn];rfl,?_,row_other hme hs (by decide) (row_keep h.pa fun g A hg=>hr g A _ (by decide) hg),fun x hx => ?_⟩,?_⟩
 ·show World.ownsRow _ B 74 4 v (m.things ++ [t]).length (((m.things ++ [t]).zip (c.bv ++ [(none,0)])).flatMap thC)
  rw [ez,List.length_append]
  exact row_other hme hs (by decide) ho
 ·have hx:x∈(m.things ++ [t]).zip (c.bv ++ [(none,0)]):=hx
  rw [ez] at hx
  rcases List.mem_append.1 hx with h1 | h1
  ·exact ((h.bt x h1).rows hc.size fun g A hg=>hr g A _ (by decide) hg).other hme hs (by decide)
  ·rw [List.mem_singleton] at h1
   subst h1
   exact ⟨.inl ht,by rw [ht];exact Nat.zero_le _,fun g o e=>by cases e⟩
 ·have h1:MCh B w w':=hc.mono fun k _ e=>by
   rcases h.th.2 with ⟨e1,_⟩ | ⟨g1,cap,cur,e1,hb1,hg1,_⟩
   ·rw [e1] at e;cases e
   ·rw [e1] at e
    have:g1=k:=by simpa [Value.ownBlock] using e
    rw [this] at hg1 hb1
    exact ⟨⟨_,_,hg1,.inr (.inl rfl)⟩,hb1⟩
  exact h1.trans (MCh.row h.gB hme (.inl rfl) hs)
theorem IsMo.growP {w w':World} {B:Nat} {c:MC} {m:Mo} (h:IsMo w B c m) (hc:Chg w w' (fun k=>c.pv.ownBlock=some k)) {v:Value} {ps:List (List ByteArray × Int)} (ho:w'.ownsRow B 76 2 v ps.length (ps.flatMap enC)):IsMo (w'.setCell ⟨c.g,1,none⟩ v) B ⟨c.g,c.tv,v,c.bv⟩ { m with paths:=ps }∧MCh B w (w'.setCell ⟨c.g,1,none⟩ v):=by
 have hr:=own_rows h.pa hc;have hme:=hr _ _ _ (by decide) h.me;have hs:Chg w' (w'.setCell ⟨c.g,1,none⟩ v) (· = c.g):=Chg.setCell;refine ⟨⟨h.gB,heap_setCell_same w' c.g 1 _ _ _ hme,h.bn,row_other hme hs (by decide) (row_keep h.th fun g A hg=>hr g A _ (by decide) hg),row_other hme hs (by decide) ho,fun x hx=>((h.bt x hx).rows hc.size fun g A hg=>hr g A _ (by decide) hg).other hme hs (by decide)⟩,?_⟩
 have h1:MCh B w w':=hc.mono fun k _ e=>by
  rcases h.pa.2 with ⟨e1,_⟩ | ⟨g1,cap,cur,e1,hb1,hg1,_⟩
  ·rw [e1] at e;cases e
  ·rw [e1] at e
   have:g1=k:=by simpa [Value.ownBlock] using e
   rw [this] at hg1 hb1
   exact ⟨⟨_,_,hg1,.inr (.inr rfl)⟩,hb1⟩
 exact h1.trans (MCh.row h.gB hme (.inl rfl) hs)
end Go.Proofs.YtmgfilacepnjlaaGreatDoor
