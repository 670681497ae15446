/-
 PlainKept: rows of numbers that are made; texts appended; things taken.
-/
import Derived.Test.YtmgfilacepnjlaaGreatDoorYP0
import Derived.Test.YtmgfilacepnjlaaGreatDoorYE
namespace Go.Proofs.YtmgfilacepnjlaaGreatDoor
open Go.RowKit

def IA (l:List Int):Array Value:=(l.map (Value.int .i64)).toArray
theorem made_oneI (n:Nat):madeCells #[Value.int .i64 0] n=IA (List.replicate n 0):=by
 apply Array.ext
 ·simp [size_madeCells,IA]
 ·intro i h1 h2
  have e:(#[Value.int .i64 0]:Array Value)[i % 1]! = Value.int .i64 0:=by rw [Nat.mod_one];rfl
  simp only [madeCells,Array.getElem_map,Array.getElem_range]
  rw [show (#[Value.int .i64 0]:Array Value).size=1 from rfl,e]
  simp [IA]
theorem make_ints (n:Nat) (h1:n≤4398046511104) (w:World):(Instr.makeSlice 60 (.int .i64 (n:Int)) (.int .i64 (n:Int))).run Tryz.prog w=.ok (.slice (some ⟨w.heap.size,0,none⟩) n n) (w.alloc (.cells (IA (List.replicate n 0)) 3)):=by
 obtain ⟨i,hi,hz,hs,hb⟩:=infoI;rw [run_make w 60 3 i _ Tryz.underlying60 hi hz .i64 .i64 n n (by omega) (Int.le_refl _) (by rw [hb];omega) (by omega),hs,Nat.mul_one];rw [show Value.cells (.int .i64 0)=#[Value.int .i64 0] from rfl,made_oneI,Int.toNat_natCast]
theorem own_made (w:World) {n:Nat} (h1:n≤4398046511104):IOwn (w.alloc (.cells (IA (List.replicate n 0)) 3)) w.heap.size (.slice (some ⟨w.heap.size,0,none⟩) n n) (List.replicate n 0):=by
 refine ⟨by rw [List.length_map,Nat.mul_one],.inr ⟨w.heap.size,n,_,by rw [List.length_replicate],Nat.le_refl _,heap_alloc_new _ _,by rw [List.length_replicate];exact Nat.le_refl _,by unfold maxLen;omega,by unfold IA;rw [List.size_toArray,List.length_map,List.length_replicate,Nat.mul_one],?_⟩⟩;unfold IA;rw [List.length_replicate,Nat.mul_one]
 exact List.take_of_length_le (by rw [List.length_map,List.length_replicate];exact Nat.le_refl _)
theorem own_setK {w:World} {B gi N:Nat} {G:List Int} (h:IOwn w B (.slice (some ⟨gi,0,none⟩) N N) G) (hn:G.length=N) (j:Nat) (z:Int):IOwn (w.setCell ⟨gi,j,none⟩ (.int .i64 z)) B (.slice (some ⟨gi,0,none⟩) N N) (G.set j z):=by
 have h0:w.ownsRow B 3 1 (.slice (some ⟨gi,0,none⟩) N N) N (G.map (Value.int .i64)):=by rw [←hn] at h ⊢;exact h
 have h2:=row_set (j:=j) (u:=.int .i64 z) h0;unfold IOwn;rw [List.length_set,hn,List.map_set]
 exact h2
theorem own_rowK {w:World} {B gi N:Nat} {G:List Int} (h:IOwn w B (.slice (some ⟨gi,0,none⟩) N N) G):B≤gi∧∃ A,w.heap[gi]? = some (.cells A 3 (0,0)):=h.blk rfl
theorem IOwn.call3 {w w':World} {B:Nat} {v:Value} {l:List Int} (h:IOwn w B v l) (hc:Chg w w' No):IOwn w' B v l:=h.keep hc (fun _ _ e=>e)
theorem own_apart {w w':World} {B:Nat} {v v2:Value} {l:List ByteArray} {G:List Int} (hT:TOw w B v l) (hI:IOwn w B v2 G) (hc:Chg w w' (fun k=>v.ownBlock=some k)):IOwn w' B v2 G:=hI.keep hc fun k e1 e2=>by
 obtain ⟨_,A1,h1⟩:=hI.blk e1;obtain ⟨_,A2,h2⟩:=hT.blk e2;rw [h1] at h2
 injection h2 with h3
 injection h3 with h4 h5
 exact absurd h5 (by decide)
theorem own_new {w W W':World} {v:Value} {l:List ByteArray} (hT:TOw W w.heap.size v l) (h:Chg w W No) (hc:Chg W W' (fun k=>v.ownBlock=some k)):Chg w W' No:=h.trans hc (fun _ _ e=>e) fun j hj e=>by
 have:=(hT.blk e).1
 omega
def OkT (t:ByteArray):Prop:=∃ ls,LL ls∧ls≠[]∧t=TP ls
theorem okT_text (n:Int):OkT (textN n):=by
 obtain ⟨h1,h2,h3⟩:=text_path (text_mem n)
 exact ⟨_,h1,h2,h3⟩
section
variable {ops:Array Oper} {rest:List Oper} {o:Oper} {a:Act} {w:World} {Q:Exit→Act→World→Prop}
theorem wp_appTx (hg:o.guard=none) (s x:Operand) (hop:o.op=.call { callee:=.builtin .append,args:=#[s,x],argTypes:=#[61,61] }) (B g c:Nat) (v:Value) (l:List ByteArray) (y:ByteArray) (hs:a.eval s=v) (hx:a.eval x=.slice (some ⟨g,0,none⟩) 1 c)
  (hown:TOw w B v l) (hat:w.heap[g]? = some (.cells #[.string y] 9 (0,0))) (hl:l.length≤1000000000) (hB:B≤w.heap.size)
  (hK:∀ v' w',TOw w' B v' (l ++ [y])→Chg w w' (fun k=>v.ownBlock=some k)→wpList Tryz.prog ops Q rest (a.put o.dst v') w'):wpList Tryz.prog ops Q (o :: rest) a w:=by
 obtain ⟨i,hi,hz,hsz,hby⟩:=infoT;refine wpList_append_own_at w hg s x 61 hop B 9 i _ 1 16 Tryz.underlying61 hi hz hsz hby rfl (by decide) v l.length (l.map Value.string) hs hown ⟨g,0,none⟩ 1 c [.string y] hx rfl (fun k u hj => ?_) (by simp [Value.oneCell']) (by unfold maxLen;omega) (by omega) hB ?_
 ·rw [addr_add,Nat.zero_add,cell_of_row _ _ _ _ _ _ hat]
  simpa using hj
 ·intro v' w' h1 h2 _ _
  refine hK v' w' ?_ ((Chg.grown h2).mono fun j _ e=>e.symm);unfold TOw;rw [List.length_append,List.map_append]
  exact h1
theorem wp_convT (hw:Region.wanted o (yielded ops a.tmps)=true) (x:Operand) (hop:o.op=Op.convert 32 9 x) (v u:Value) (hx:a.eval x=v) (h:(convert 32 9 v).run Tryz.prog w=.ok u w)
  (hK:wpList Tryz.prog ops Q rest (a.put o.dst u) w):wpList Tryz.prog ops Q (o :: rest) a w:=by
 refine wpList_want hw fun K' hK' => ?_
 unfold Oper.wp
 simp [execOp,hop,hx,h,Result.andThen]
 exact hK' _ _ hK
end
section
variable {ops:Array Oper} {Q:Exit→Act→World→Prop} {S:World→Prop} {fuel:Nat} {listed:Array Bool} {a:Act} {w:World}
theorem takeL (i d:Nat) (t:TypeId) (x:Operand) (ad:Addr) (v:Value) {o:Oper} (hop:ops[i]? = some o) (hs:Region.noSelect ops=true) (hf:Region.free .any ops listed i=true) (hr:(Region.ready .any ops listed).contains i=true)
  (hd:o.dst=some d) (ho:o.op=.load t x) (hx:a.eval x=.pointer (some ad)) (hw:Region.wanted o (yielded ops a.tmps)=true) (hQ:∀ c a w,¬ Q (.panic c) a w) (hS:S w)
  (hg:∀ w,S w→(loadVar t ad).run Tryz.prog w=.ok v w)
  (h:wpAnyH Tryz.prog .any ops Q S fuel (listed.setIfInBounds i true) { a with tmps:=a.tmps.setIfInBounds d v } w):wpAnyH Tryz.prog .any ops Q S (fuel + 1) listed a w:=by
 refine takeVal i d _ hop hs hf hr hd hw hQ hS (fun w hw' => ?_) h;unfold execOp
 simp only [ho,hx,Instr.loadAt,Instr.sureAddr,Sem.run_bind,Sem.run_pure,Result.andThen_ok,hg w hw']
end
end Go.Proofs.YtmgfilacepnjlaaGreatDoor
