/-
 What is asked: bounds.
-/
import Derived.Test.YtmgfilacepnjlaaGreatDoorVG
import Derived.Laws.Concat
import Derived.Laws.IdiomStrings
import Derived.Test.YtmgfilacepnjlaaGreatDoorVI0
namespace Go.Proofs.YtmgfilacepnjlaaGreatDoor
open Go.RowKit

theorem at_ask {q:PC} {s:PSt} (i:Int) (o:OpS) (da:Option Addr) (dc:Nat) (w:World) (h:IsPl w q s) (hi:Inv s) (hx:s.nd i≠none) (hk:o.kind=9∨o.kind=10∨o.kind=11) :
  Calls Tryz.prog 27 #[.pointer (some ⟨q.p,0,none⟩),.int .i64 i,.agg (opA o.kind o.path o.tto o.off o.len da o.data.length dc o.made o.pick)] w fun e w'=>∃ A,e=.returned (.agg A)∧A.size=10∧A.all (·.oneCell')=true∧AnsIs w' w.heap.size A (atOp s i o).2∧Chg w w' No:=by
 obtain ⟨x,hsx⟩:=Option.ne_none_iff_exists'.1 hx;obtain ⟨c,hqc,hN⟩:=h.node hsx;have hOk:=InvD.nd hi i x hsx;unfold atOp;rw [hsx]
 simp only
 by_cases k10:o.kind=10
 ·rw [if_pos k10,k10]
  refine (doAt_stat i o.path o.tto o.off o.len da o.data.length dc o.made o.pick w h hqc hsx).mono ?_
  rintro e w' ⟨rfl,hc⟩
  exact ⟨_,rfl,(ansS_one _ _).1,(ansS_one _ _).2,rfl,hc⟩
 rw [if_neg k10]
 by_cases k11:o.kind=11
 ·rw [if_pos k11,k11]
  by_cases hk2:x.kind=2
  ·rw [if_pos hk2]
   refine (doAt_listA i o.path o.tto o.off o.len da o.data.length dc o.made o.pick w (listS s x) h hqc hsx hk2 (fun W hW=>list_any i W (h.call hW) hi hqc hsx)).mono ?_
   rintro e w' ⟨v,rfl,hE,hc⟩
   obtain ⟨a,cp,hv⟩:=row_shape hE
   exact ⟨_,rfl,rfl,by rw [hv];simp [ansL,Value.oneCell'],⟨v,rfl,hE⟩,hc⟩
  ·rw [if_neg hk2]
   refine (doAt_listF i o.path o.tto o.off o.len da o.data.length dc o.made o.pick w h hqc hsx hk2).mono ?_
   rintro e w' ⟨rfl,hc⟩
   exact ⟨_,rfl,(ansE_one _).1,(ansE_one _).2,rfl,hc⟩
 rw [if_neg k11]
 have k9:o.kind=9:=by omega
 by_cases hk2:x.kind=2
 ·rw [if_pos hk2,k9]
  refine (doAt_dirR i o.path o.tto o.off o.len da o.data.length dc o.made o.pick w h hqc hsx hk2).mono ?_
  rintro e w' ⟨rfl,hc⟩
  exact ⟨_,rfl,(ansE_one _).1,(ansE_one _).2,rfl,hc⟩
 rw [if_neg hk2,if_neg (by omega),if_neg (by omega),if_pos k9,k9]
 have hE:∀ E (e:Ending) (w':World),e=.returned (.agg (ansE E))∧Chg w w' No→∃ A,e=.returned (.agg A)∧A.size=10∧A.all (·.oneCell')=true∧AnsIs w' w.heap.size A (.err E)∧Chg w w' No:=fun E e w' ⟨h1,hc⟩=>⟨_,h1,(ansE_one _).1,(ansE_one _).2,rfl,hc⟩
 show Calls _ _ _ _ (fun e w'=>∃ A,e=.returned (.agg A)∧A.size=10∧A.all (·.oneCell')=true∧AnsIs w' w.heap.size A (readOp x o.off o.len)∧Chg w w' No)
 unfold readOp
 by_cases d1:o.off < 0
 ·rw [if_pos (Or.inl d1)]
  exact (doAt_readE i o.path o.tto o.off o.len da o.data.length dc o.made o.pick w 101 h hqc hsx hk2 (fun W hW=>read_neg o.off o.len W d1)).mono (hE 101)
 by_cases d2:o.len < 0
 ·rw [if_pos (Or.inr (Or.inl d2))]
  exact (doAt_readE i o.path o.tto o.off o.len da o.data.length dc o.made o.pick w 101 h hqc hsx hk2 (fun W hW=>read_cnt o.off o.len W (by omega) d2)).mono (hE 101)
 by_cases d3:131072 < o.len
 ·rw [if_pos (Or.inr (Or.inr d3))]
  exact (doAt_readE i o.path o.tto o.off o.len da o.data.length dc o.made o.pick w 101 h hqc hsx hk2 (fun W hW=>read_long o.off o.len W (by omega) d3)).mono (hE 101)
 rw [if_neg (fun c=>c.elim d1 (fun c=>c.elim d2 d3))]
 by_cases d4:x.size≤o.off
 ·rw [if_pos d4]
  exact (doAt_readE i o.path o.tto o.off o.len da o.data.length dc o.made o.pick w 0 h hqc hsx hk2 (fun W hW=>read_end o.off o.len W (hN.call hW) (by omega) (by omega) (by omega) d4)).mono (hE 0)
 rw [if_neg d4];obtain ⟨p,hp⟩:∃ p:Nat,o.off=(p:Int):=⟨o.off.toNat,by omega⟩;have hsz:=hOk.size;rw [hp,Int.toNat_natCast];rw [hp] at d4;refine (doAt_read i o.path o.tto (p:Int) o.len da o.data.length dc o.made o.pick w (min o.len (x.size - (p:Int))).toNat (SA (BY (rowsN x) p (min o.len (x.size - (p:Int))).toNat)) h hqc hsx hk2 (fun W hW=>read_many (rowsN x) p _ o.len W (hN.call hW) (fun b=>⟨(hOk.rows b).1,(hOk.rows b).2.1⟩) (by omega) (by omega) (by omega) (by omega) (by omega))).mono ?_
 rintro e w' ⟨g,rfl,h1,hc,h2⟩
 refine ⟨_,rfl,(ansD_one _ _ _ _).1,(ansD_one _ _ _ _).2,⟨g,by rw [BY_len],h1,h2⟩,hc⟩
def askO (k:Int) (p:ByteArray) (n:Int):OpS:=⟨k,p,ByteArray.empty,0,n,[],0,0⟩
theorem giv_ask (p:ByteArray):bits .andNot .i64 (givF p ByteArray.empty 0 0 0 0 0) 1=0∧bits .andNot .i64 (givF p ByteArray.empty 0 131072 0 0 0) 13=0:=by
 have e:∀ b:Bool,bits .andNot .i64 (markV (!decide ((0:Int)=0)) (markV (!decide ((0:Int)=0)) (markV (decide (0 < 0)) (markV (!decide ((0:Int)=0)) (markV (!decide ((0:Int)=0)) (markV (!ByteArray.empty.toList.isEmpty) (markV b 0 1) 2) 4) 8) 16) 32) 64) 1=0∧bits .andNot .i64 (markV (!decide ((0:Int)=0)) (markV (!decide ((0:Int)=0)) (markV (decide (0 < 0)) (markV (!decide ((131072:Int)=0)) (markV (!decide ((0:Int)=0)) (markV (!ByteArray.empty.toList.isEmpty) (markV b 0 1) 2) 4) 8) 16) 32) 64) 13=0:=fun b=>by
  have h0:ByteArray.empty.toList.isEmpty=true:=by kernel_rfl
  rw [h0]
  cases b <;> exact ⟨by decide,by decide⟩
 exact e _
theorem ask_ok (k:Int) (p:ByteArray) (n:Int) (hk:(k=10∧n=0)∨(k=11∧n=0)∨(k=9∧n=131072)):okOp (askO k p n):=by
 have h1:=(giv_ask p).1;have h2:=(giv_ask p).2
 rcases hk with ⟨rfl,rfl⟩ | ⟨rfl,rfl⟩ | ⟨rfl,rfl⟩
 ·exact ⟨by show (1:Int)≤10∧(10:Int)≤14;omega,h1,by show (0:Int)≤0;omega,by show (0:Int)≤1099511627776;omega⟩
 ·exact ⟨by show (1:Int)≤11∧(11:Int)≤14;omega,h1,by show (0:Int)≤0;omega,by show (0:Int)≤1099511627776;omega⟩
 ·exact ⟨by show (1:Int)≤9∧(9:Int)≤14;omega,h2,by show (0:Int)≤0;omega,by show (0:Int)≤1099511627776;omega⟩
noncomputable def askS (s:PSt) (k:Int) (p:ByteArray) (n:Int):Ans:=(doS s (askO k p n)).2
theorem ask_any {q:PC} {s:PSt} (k:Int) (p:ByteArray) (n:Int) (da:Option Addr) (dc:Nat) (w:World) (h:IsPl w q s) (hi:Inv s) (hu:UB w) (hm:ML w) (hk:(k=10∧n=0)∨(k=11∧n=0)∨(k=9∧n=131072)) :
  Calls Tryz.prog 9 #[.pointer (some ⟨q.p,0,none⟩),.agg (opA k p ByteArray.empty 0 n da 0 dc 0 0)] w fun e w'=>∃ A,e=.returned (.agg A)∧AnsIs w' w.heap.size A (askS s k p n)∧Chg w w' No:=by
 have ho:=InvD.okS hi;have e0:=ask_ok k p n hk
 have hE:∀ E (e:Ending) (w':World),e=.returned (.agg (ansE E))∧Chg w w' No→∃ A,e=.returned (.agg A)∧AnsIs w' w.heap.size A (.err E)∧Chg w w' No:=fun E e w' ⟨h1,hc⟩=>⟨_,h1,rfl,hc⟩
 obtain ⟨o,hoo⟩:∃ y,y=askO k p n:=⟨_,rfl⟩
 have o1:o.kind=k:=by rw [hoo];rfl
 have o2:o.path=p:=by rw [hoo];rfl
 have hkk:o.kind=9∨o.kind=10∨o.kind=11:=by omega
 unfold askS;rw [←hoo] at e0 ⊢
 have hop:opA k p ByteArray.empty 0 n da 0 dc 0 0=opA o.kind o.path o.tto o.off o.len da o.data.length dc o.made o.pick:=by rw [hoo];rfl
 rw [hop]
 have hks:∀ k,No k→k < w.heap.size:=fun k e=>e.elim
 unfold doS;rw [if_neg (fun c=>c e0)];obtain ⟨⟨r1,r2⟩,hz,hm0,hm1⟩:=e0;rw [if_neg (by omega)]
 by_cases e2:(splitR o.path.data.toList).2=0
 ·rw [if_neg (fun c=>c e2),if_neg (by omega),if_neg (by omega),if_neg (by omega),if_neg (by omega),if_neg (by omega),if_neg (by omega),if_neg (by omega)]
  have hn:=namesOf_ok e2;have hf:=names_few e2
  have hnm':∀ x∈namesOf o.path,x.size≤1000:=fun x hx=>nm_size' (hn x hx)
  by_cases kw:(walkL s (namesOf o.path) 1).2=0
  ·rw [if_neg (fun c=>c kw)]
   have hWk:∀ W a ls,Chg w W No→datas ls=(splitR o.path.data.toList).1→LAt W a ls→Calls Tryz.prog 26 #[.pointer (some ⟨q.p,0,none⟩),.slice a ls.length ls.length] W fun e w'=>e=.returned (.tuple #[.int .i64 (walkL s (namesOf o.path) 1).1,.int .i64 0])∧w'=W:=fun W a ls hW hl hL=>by
    have hls:=names_is hl;subst hls;have:=walk_any (namesOf o.path) a (namesOf o.path).length W (h.call hW) ho hL hf hnm';rw [kw] at this
    exact this
   have hx:=walkL_some ho (namesOf o.path) 1 ho.root kw
   have hRa:∀ (A:Array Value) (w1 w2:World) (r o':Array Value),AnsIs w1 w.heap.size A (atOp s (walkL s (namesOf o.path) 1).1 o).2→w1.heap[w.heap.size + 1]? = some (.cells o' 43 (0,0))→PutR w1 (w.heap.size + 1) r 43 w2→AnsIs w2 w.heap.size A (atOp s (walkL s (namesOf o.path) 1).1 o).2:=fun A w1 w2 r o h1 h2 h3=>h1.put h3 h2
   have hM:∀ (k:Int),o.kind=k→∀ W,Chg w W No→Calls Tryz.prog 27 #[.pointer (some ⟨q.p,0,none⟩),.int .i64 (walkL s (namesOf o.path) 1).1,.agg (opA k o.path o.tto o.off o.len da o.data.length dc o.made o.pick)] W fun e w'=>∃ A,e=.returned (.agg A)∧A.size=10∧A.all (·.oneCell')=true∧AnsIs w' w.heap.size A (atOp s (walkL s (namesOf o.path) 1).1 o).2∧Chg W w' No:=fun k hk W hW=>by
    subst hk;refine (at_ask (walkL s (namesOf o.path) 1).1 o da dc W (h.call hW) hi hx hkk).mono ?_
    rintro e w' ⟨A,rfl,h1,h2,h3,h6⟩
    exact ⟨A,rfl,h1,h2,h3.low hW.size,h6⟩
   rcases hkk with k | k | k
   ·have hM':=hM 9 k
    rw [k] at hz ⊢
    exact do_atK (q:=q) 9 (by decide) (by decide) (by decide) o.path o.tto o.off o.len da o.data.length dc o.made o.pick (walkL s (namesOf o.path) 1).1 w _ No hks hu hm hz hm0 hm1 e2 hWk hM' hRa
   ·have hM':=hM 10 k
    rw [k] at hz ⊢
    exact do_atK (q:=q) 10 (by decide) (by decide) (by decide) o.path o.tto o.off o.len da o.data.length dc o.made o.pick (walkL s (namesOf o.path) 1).1 w _ No hks hu hm hz hm0 hm1 e2 hWk hM' hRa
   ·have hM':=hM 11 k
    rw [k] at hz ⊢
    exact do_atK (q:=q) 11 (by decide) (by decide) (by decide) o.path o.tto o.off o.len da o.data.length dc o.made o.pick (walkL s (namesOf o.path) 1).1 w _ No hks hu hm hz hm0 hm1 e2 hWk hM' hRa
  ·rw [if_pos kw]
   have hWk:∀ W a ls,Chg w W No→datas ls=(splitR o.path.data.toList).1→LAt W a ls→Calls Tryz.prog 26 #[.pointer (some ⟨q.p,0,none⟩),.slice a ls.length ls.length] W fun e w'=>e=.returned (.tuple #[.int .i64 0,.int .i64 (walkL s (namesOf o.path) 1).2])∧w'=W:=fun W a ls hW hl hL=>by
    have hls:=names_is hl;subst hls;have:=walk_any (namesOf o.path) a (namesOf o.path).length W (h.call hW) ho hL hf hnm';rw [walkL_bad _ _ kw] at this
    exact this
   rcases hkk with k | k | k
   ·rw [k] at hz ⊢
    exact (do_bad (q:=q) 9 (by decide) (by decide) (by decide) o.path o.tto o.off o.len da o.data.length dc o.made o.pick _ w kw hu hm hz hm0 hm1 e2 hWk).mono (hE _)
   ·rw [k] at hz ⊢
    exact (do_bad (q:=q) 10 (by decide) (by decide) (by decide) o.path o.tto o.off o.len da o.data.length dc o.made o.pick _ w kw hu hm hz hm0 hm1 e2 hWk).mono (hE _)
   ·rw [k] at hz ⊢
    exact (do_bad (q:=q) 11 (by decide) (by decide) (by decide) o.path o.tto o.off o.len da o.data.length dc o.made o.pick _ w kw hu hm hz hm0 hm1 e2 hWk).mono (hE _)
 ·rw [if_pos e2]
  rcases hkk with k | k | k
  ·rw [k] at hz ⊢
   exact (do_sbad (q:=q) 9 (by decide) (by decide) (by decide) o.path o.tto o.off o.len da o.data.length dc o.made o.pick w hu hm hz hm0 hm1 _ rfl e2).mono (hE _)
  ·rw [k] at hz ⊢
   exact (do_sbad (q:=q) 10 (by decide) (by decide) (by decide) o.path o.tto o.off o.len da o.data.length dc o.made o.pick w hu hm hz hm0 hm1 _ rfl e2).mono (hE _)
  ·rw [k] at hz ⊢
   exact (do_sbad (q:=q) 11 (by decide) (by decide) (by decide) o.path o.tto o.off o.len da o.data.length dc o.made o.pick w hu hm hz hm0 hm1 _ rfl e2).mono (hE _)
end Go.Proofs.YtmgfilacepnjlaaGreatDoor

namespace Go.Proofs.YtmgfilacepnjlaaGreatDoor
open Go.RowKit

def strL (c:List Int):ByteArray:=⟨(c.map fun n=>UInt8.ofNat n.toNat).toArray⟩
theorem conv_row (w:World) (g:Nat) (l:List Int) (cap:Nat) (h:w.heap[g]? = some (.cells (SA l) 5 (0,0))):(convert 32 9 (.slice (some ⟨g,0,none⟩) l.length cap)).run Tryz.prog w=.ok (.string (strL l)) w:=by
 rw [run_convert_bytes_string w 32 9 5 _ _ _ Tryz.underlying32 Tryz.underlying5 Tryz.underlying9]
 have hl:=run_loadCells_list (P:=Tryz.prog) w ⟨g,0,none⟩ (l.map (Value.int .u8)) (fun j v hj=>by
  rw [addr_add,Nat.zero_add,cell_of_row _ _ _ _ _ _ h]
  show (l.map (Value.int .u8)).toArray[j]? = some v
  simpa using hj)
 rw [List.length_map] at hl;rw [run_bytesToString w _ l.length cap l hl]
 have hf:∀ (c:List Int) (r:ByteArray),c.foldl (fun r n=>r.push (UInt8.ofNat n.toNat)) r=⟨r.data ++ (c.map fun n=>UInt8.ofNat n.toNat).toArray⟩:=by
  intro c
  induction c with
  | nil=>intro r;simp
  | cons x c ih =>
   intro r
   rw [List.foldl_cons,ih]
   congr 1
   simp [ByteArray.push]
 rw [hf]
 simp [strL]
theorem conv_nil (w:World):(convert 32 9 (.slice none 0 0)).run Tryz.prog w=.ok (.string ByteArray.empty) w:=by
 rw [run_convert_bytes_string w 32 9 5 _ _ _ Tryz.underlying32 Tryz.underlying5 Tryz.underlying9]
 simp [Conv.bytesToString]
def belN (d n:ByteArray):ByteArray:=if d=⟨#[47]⟩ then ⟨#[47]⟩ ++ n else (d ++ ⟨#[47]⟩) ++ n
set_option maxHeartbeats 2000000 in
set_option maxRecDepth 100000 in
theorem below_any (d n:ByteArray) (w:World) (hd:d.size≤100000) (hn:n.size≤100000):Calls Tryz.prog 37 #[.string d,.string n] w fun e w'=>e=.returned (.string (belN d n))∧w'=w:=by
 unfold belN;have z1:(⟨#[47]⟩:ByteArray).size=1:=rfl
 by_cases h:d=⟨#[47]⟩
 ·rw [if_pos h]
  subst h;clear hd
  go_enter Tryz.func37,Tryz.ntmps37
  go_wp2_with fail
  go_ret
  exact ⟨rfl,rfl⟩
 ·rw [if_neg h]
  have k1:(d.toList == [47])=false:=by
   rw [beq_eq_false_iff_ne]
   intro e
   rw [tl] at e
   exact h (data_inj (e.trans rfl))
  clear h
  go_enter Tryz.func37,Tryz.ntmps37
  go_wp2_with fail
  go_ret
  exact ⟨rfl,rfl⟩
end Go.Proofs.YtmgfilacepnjlaaGreatDoor

namespace Go.Proofs.YtmgfilacepnjlaaGreatDoor
open Go.RowKit

theorem inv_new {n m:Int} (h:SizeOk n m):Inv (newS n m):=by
 have hnd:∀ i x,(newS n m).nd i=some x→i=1∧x=newNd 2 0:=fun i x hx=>by
  have hx:(if i=1 then some (newNd 2 0) else none)=some x:=hx
  by_cases e:i=1
  ·rw [if_pos e] at hx;cases hx;exact ⟨e,rfl⟩
  ·rw [if_neg e] at hx;cases hx
 obtain ⟨h1,h2,h3,h4,h5⟩:=h;refine ⟨⟨⟨by show 0≤n - 1 - m;omega,by show n - 1 - m≤4096;omega⟩,h3,h4⟩,⟨newNd 2 0,rfl,rfl,rfl⟩,fun i x hx => ?_,fun i x hx => ?_,fun i x j hx hj h0 => ?_,fun j x hx hj => ?_⟩
 ·rw [(hnd i x hx).1];exact ⟨by omega,h3⟩
 ·rw [(hnd i x hx).2]
  exact ⟨.inr rfl,⟨by simp [newNd],by simp [newNd]⟩,⟨by simp [newNd],by simp [newNd]⟩,⟨by simp [newNd],by simp [newNd]⟩,(fun _ _ e=>by cases e),fun _=>⟨rfl,fun _=>rfl⟩,fun _=>⟨rfl,fun _=>rfl⟩,by simp [newNd],(fun _ _ e=>by cases e),(fun _ _ _ e _=>by cases e),fun k hk=>absurd hk (by simp [newNd]),by simp [newNd],fun _ e=>absurd rfl e⟩
 ·rw [(hnd i x hx).2] at hj;cases hj
 ·exact absurd (hnd j x hx).1 hj
def smI (n:Int):Int:=3 + pickN n 9
def smS (n:Int):Int:=smI n + 10 + pickN (Int.tdiv n 9) 120
theorem sm_ok (n:Int):SizeOk (smS n) (smI n):=by
 have h1:=pickN_bd n (n:=9) (by omega);have h2:=pickN_bd (Int.tdiv n 9) (n:=120) (by omega);unfold SizeOk smS smI
 omega
set_option maxHeartbeats 2000000 in
set_option maxRecDepth 100000 in
theorem small_any (n:Int) (w:World) (hn:I64 n):Calls Tryz.prog 6 #[.int .i64 n] w fun e w'=>∃ q:PC,e=.returned (.tuple #[.pointer (some ⟨q.p,0,none⟩),.int .i64 (smS n - 1 - smI n),.int .i64 (smI n)])∧IsPl w' q (newS (smS n) (smI n))∧Chg w w' No∧w.heap.size≤q.p∧w.heap.size≤q.mb∧∀ i c,q.nc i=some c→∀ k,BlkN c k→w.heap.size≤k:=by
 have hN:=new_good (smS n) (smI n) w (sm_ok n);have hP1:=pick_any n 9 w hn (by omega) (by omega);have hd:=tdiv_bd n 9 (by omega) hn;have hP2:=pick_any (Int.tdiv n 9) 120 w hd (by omega) (by omega);have h1:=pickN_bd n (n:=9) (by omega);have h2:=pickN_bd (Int.tdiv n 9) (n:=120) (by omega);unfold smS smI at hN ⊢;obtain ⟨a,ha⟩:∃ y,y=pickN n 9:=⟨_,rfl⟩;obtain ⟨b,hb⟩:∃ y,y=pickN (Int.tdiv n 9) 120:=⟨_,rfl⟩;rw [←ha] at hP1 h1;rw [←hb] at hP2 h2;rw [←ha,←hb] at hN ⊢;obtain ⟨a0,a1⟩:=h1;obtain ⟨b0,b1⟩:=h2;obtain ⟨n0,n1⟩:=hn;clear ha hb
 go_enter Tryz.func6,Tryz.ntmps6
 go_upto_region 2 with (go_at_call 17;go_must (refine hP1.mono ?_;rintro e w2 ⟨rfl,rfl⟩))
 clear hP1
 go_upto_region 3 with (go_at_call 17;go_must (refine hP2.mono ?_;rintro e w2 ⟨rfl,rfl⟩))
 clear hP2 n0 n1
 go_wp2_with (first
  | (go_at_call 18;go_must (refine hN.mono ?_;rintro e w3 ⟨q,rfl,hq⟩;have HQ:=hid hq;clear hq))
  | fail)
 go_ret3
 exact ⟨q,rfl,HQ.out⟩
end Go.Proofs.YtmgfilacepnjlaaGreatDoor

namespace Go.Proofs.YtmgfilacepnjlaaGreatDoor
open Go.RowKit

def TOw (w:World) (B:Nat) (v:Value) (l:List ByteArray):Prop:=w.ownsRow B 9 1 v l.length (l.map Value.string)
theorem infoT:∃ i,Tryz.prog.info? 9=some i∧i.zero=some (.string ⟨#[]⟩)∧i.size=1∧i.bytes=16:=by
 have h:(Tryz.prog.info? 9).map (fun i=>(i.zero,i.size,i.bytes))=some (some (.string ⟨#[]⟩),1,16):=by kernel_rfl
 cases hq:Tryz.prog.info? 9 with
 | none=>rw [hq] at h;cases h
 | some i =>
  rw [hq] at h;have h:=Option.some.inj h
  simp only [Prod.mk.injEq] at h
  exact ⟨i,rfl,h.1,h.2.1,h.2.2⟩
theorem TOw.keep {w w':World} {B:Nat} {v:Value} {l:List ByteArray} {ks:Nat→Prop} (h:TOw w B v l) (hc:Chg w w' ks) (hn:∀ k,v.ownBlock=some k→¬ ks k):TOw w' B v l:=by
 refine ⟨h.1,?_⟩
 rcases h.2 with k | ⟨g,cap,cur,rfl,hb,hg,r⟩
 ·exact .inl k
 ·exact .inr ⟨g,cap,cur,rfl,hb,hc.keep hg (hn g rfl),r⟩
theorem TOw.call {w w':World} {B:Nat} {v:Value} {l:List ByteArray} (h:TOw w B v l) (hc:Chg w w' No):TOw w' B v l:=h.keep hc (fun _ _ e=>e)
theorem TOw.blk {w:World} {B:Nat} {v:Value} {l:List ByteArray} (h:TOw w B v l) {k:Nat} (e:v.ownBlock=some k):B≤k∧∃ A,w.heap[k]? = some (.cells A 9 (0,0)):=by
 rcases h.2 with ⟨e1,_⟩ | ⟨g,cap,cur,e1,h1,h2,_⟩
 ·rw [e1] at e;cases e
 ·rw [e1] at e
  have:g=k:=by simpa [Value.ownBlock] using e
  subst this
  exact ⟨h1,cur,h2⟩
theorem TOw.cell {w:World} {B n:Nat} {a:Option Addr} {c:Nat} {l:List ByteArray} (h:TOw w B (.slice a n c) l) {j:Nat} {t:ByteArray} (hj:l[j]? = some t):∃ g,a=some ⟨g,0,none⟩∧g < w.heap.size∧∀ w',Chg w w' No→w'.cell? ⟨g,j,none⟩=some (.string t):=by
 rcases h.2 with ⟨e,e2⟩ | ⟨g,cap,cur,e,hb,hg,r⟩
 ·have:l=[]:=List.length_eq_zero_iff.1 e2
  rw [this] at hj
  cases hj
 ·injection e with e1 e3 e4
  have hlt:g < w.heap.size:=(Array.getElem?_eq_some_iff.1 hg).1;refine ⟨g,e1,hlt,fun w' hc => ?_⟩;subst e1 e3 e4
  have hx:(l.map Value.string)[j]? = some (.string t):=by rw [List.getElem?_map,hj];rfl
  have:=World.ownsRow.cells h (g:=g) rfl j _ hx;rw [addr_add,Nat.zero_add] at this;unfold World.cell? at this ⊢;rw [hc.block _ hlt (fun e=>e)]
  exact this
theorem EOw.cell {w:World} {B n:Nat} {a:Option Addr} {c:Nat} {es:List (ByteArray × Int × Int)} (h:EOw w B (.slice a n c) es) {j:Nat} {t:ByteArray × Int × Int} (hj:es[j]? = some t):∃ g,a=some ⟨g,0,none⟩∧g < w.heap.size∧∀ w',Chg w w' No→w'.cell? ⟨g,3 * j,none⟩=some (.string t.1):=by
 rcases h.2 with ⟨e,e2⟩ | ⟨g,cap,cur,e,hb,hg,r⟩
 ·have:es=[]:=List.length_eq_zero_iff.1 e2
  rw [this] at hj
  cases hj
 ·injection e with e1 e3 e4
  have hlt:g < w.heap.size:=(Array.getElem?_eq_some_iff.1 hg).1;refine ⟨g,e1,hlt,fun w' hc => ?_⟩;subst e1 e3 e4
  have hx:(es.flatMap entC)[3 * j]? = some (.string t.1):=by
   clear h hb hg r hc
   induction es generalizing j with
   | nil=>cases hj
   | cons e es ih =>
    cases j with
    | zero=>cases hj;rfl
    | succ j =>
     have:=ih (j:=j) hj;rw [List.flatMap_cons,List.getElem?_append_right (by simp [entC];omega)];rw [show 3 * (j + 1) - (entC e).length=3 * j by simp [entC];omega]
     exact this
  have:=World.ownsRow.cells h (g:=g) rfl (3 * j) _ hx;rw [addr_add,Nat.zero_add] at this;unfold World.cell? at this ⊢;rw [hc.block _ hlt (fun e=>e)]
  exact this
section
variable {ops:Array Oper} {Q:Exit→Act→World→Prop} {S:World→Prop} {fuel:Nat} {listed:Array Bool} {a:Act} {w:World}
end
noncomputable def stA (a:Ans) (k:Nat):Int:=match a with
 | .stat i x=>[i,x.kind,x.links,lenN x,x.made,(cardN x:Int)].getD k 0
 | _=>0
def datA:Ans→List Int
 | .data ds=>ds
 | _=>[]
def entA:Ans→List (ByteArray × Int × Int)
 | .list es=>es
 | _=>[]
theorem AnsIs.one {w:World} {B:Nat} {A:Array Value} {an:Ans} (h:AnsIs w B A an):A.size=10∧A.all (·.oneCell')=true:=by
 cases an with
 | err e=>have h:A=ansE e:=h;rw [h];exact ansE_one e
 | stat i x=>have h:A=ansS i x:=h;rw [h];exact ansS_one i x
 | data ds=>obtain ⟨g,h,_⟩:=h;rw [h];exact ansD_one _ _ _ _
 | list es =>
  obtain ⟨v,h,hE⟩:=h;obtain ⟨a,c,hv⟩:=row_shape hE;rw [h,hv]
  exact ⟨rfl,by simp [ansL,Value.oneCell']⟩
theorem AnsIs.st {w:World} {B:Nat} {A:Array Value} {an:Ans} (h:AnsIs w B A an) (k:Nat) (hk:k < 6):A[k + 1]? = some (.int .i64 (stA an k)):=by
 have hcs:k=0∨k=1∨k=2∨k=3∨k=4∨k=5:=by omega
 cases an with
 | err e=>have h:A=ansE e:=h;rw [h];rcases hcs with rfl | rfl | rfl | rfl | rfl | rfl <;> rfl
 | stat i x=>have h:A=ansS i x:=h;rw [h];rcases hcs with rfl | rfl | rfl | rfl | rfl | rfl <;> rfl
 | data ds=>obtain ⟨g,h,_⟩:=h;rw [h];rcases hcs with rfl | rfl | rfl | rfl | rfl | rfl <;> rfl
 | list es=>obtain ⟨v,h,_⟩:=h;rw [h];rcases hcs with rfl | rfl | rfl | rfl | rfl | rfl <;> rfl
theorem AnsIs.code {w:World} {B:Nat} {A:Array Value} {an:Ans} (h:AnsIs w B A an):A[0]? = some (.int .i64 (codeA an))∧A[9]? = some (.bool false):=by
 cases an with
 | err e=>have h:A=ansE e:=h;rw [h];exact ⟨rfl,rfl⟩
 | stat i x=>have h:A=ansS i x:=h;rw [h];exact ⟨rfl,rfl⟩
 | data ds=>obtain ⟨g,h,_⟩:=h;rw [h];exact ⟨rfl,rfl⟩
 | list es=>obtain ⟨v,h,_⟩:=h;rw [h];exact ⟨rfl,rfl⟩
theorem AnsIs.dat {w:World} {B:Nat} {A:Array Value} {an:Ans} (h:AnsIs w B A an):∃ a n c,A[7]? = some (.slice a n c)∧n=(datA an).length∧(∀ w',Chg w w' No→(convert 32 9 (.slice a n c)).run Tryz.prog w'=.ok (.string (strL (datA an))) w'):=by
 cases an with
 | err e=>have h:A=ansE e:=h;rw [h];exact ⟨none,0,0,rfl,rfl,fun w' _=>conv_nil w'⟩
 | stat i x=>have h:A=ansS i x:=h;rw [h];exact ⟨none,0,0,rfl,rfl,fun w' _=>conv_nil w'⟩
 | data ds =>
  obtain ⟨g,h,h2,_⟩:=h;rw [h]
  exact ⟨_,_,_,rfl,rfl,fun w' hc=>conv_row w' g ds _ (hc.keep h2 (fun e=>e))⟩
 | list es=>obtain ⟨v,h,_⟩:=h;rw [h];exact ⟨none,0,0,rfl,rfl,fun w' _=>conv_nil w'⟩
theorem AnsIs.ent {w:World} {B:Nat} {A:Array Value} {an:Ans} (h:AnsIs w B A an):∃ v,A[8]? = some v∧EOw w B v (entA an):=by
 have e0:EOw w B (.slice none 0 0) []:=⟨rfl,.inl ⟨rfl,rfl⟩⟩
 cases an with
 | err e=>have h:A=ansE e:=h;rw [h];exact ⟨_,rfl,e0⟩
 | stat i x=>have h:A=ansS i x:=h;rw [h];exact ⟨_,rfl,e0⟩
 | data ds=>obtain ⟨g,h,_⟩:=h;rw [h];exact ⟨_,rfl,e0⟩
 | list es=>obtain ⟨v,h,h2⟩:=h;rw [h];exact ⟨_,rfl,h2⟩
end Go.Proofs.YtmgfilacepnjlaaGreatDoor

namespace Go.Proofs.YtmgfilacepnjlaaGreatDoor
open Go.RowKit

end Go.Proofs.YtmgfilacepnjlaaGreatDoor
