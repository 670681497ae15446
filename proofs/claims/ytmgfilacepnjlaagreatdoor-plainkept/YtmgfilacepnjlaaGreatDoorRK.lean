/-
 package plain: bytes are laid into as many blocks of a file as they reach.
-/
import Derived.Test.YtmgfilacepnjlaaGreatDoorPZ
namespace Go.Proofs.YtmgfilacepnjlaaGreatDoor
open Go.RowKit

theorem make_bytesL (n:Nat) (h1:n≤1000000) (w:World):(Instr.makeSlice 32 (.int .i64 (n:Int)) (.int .i64 (n:Int))).run Tryz.prog w=.ok (.slice (some ⟨w.heap.size,0,none⟩) n n) (w.alloc (.cells (SA (List.replicate n 0)) 5)):=by
 obtain ⟨i,hi,hz,hs,hb⟩:=infoB;rw [run_make w 32 5 i _ Tryz.underlying32 hi hz .i64 .i64 n n (by omega) (Int.le_refl _) (by rw [hb];omega) (by omega),hs,Nat.mul_one];rw [show Value.cells (.int .u8 0)=#[Value.int .u8 0] from rfl,made_oneB,Int.toNat_natCast]
def byteAt (R:Nat→List Int) (p:Nat):Int:=(R (p / 128)).getD (p % 128) 0
def BY (R:Nat→List Int) (o n:Nat):List Int:=(List.range n).map fun k=>byteAt R (o + k)
theorem BY_len (R:Nat→List Int) (o n:Nat):(BY R o n).length=n:=by simp [BY]
theorem BY_get (R:Nat→List Int) (o n k:Nat) (h:k < n):(BY R o n)[k]? = some (byteAt R (o + k)):=by simp [BY,h]
theorem BY_add (R:Nat→List Int) (o j t:Nat):BY R o (j + t)=BY R o j ++ BY R (o + j) t:=by
 simp [BY,List.range_add,Function.comp_def,Nat.add_assoc]
theorem BY_block (R:Nat→List Int) (p t:Nat) (hl:(R (p / 128)).length=128) (ht:p % 128 + t≤128):((R (p / 128)).drop (p % 128)).take t=BY R p t:=by
 apply List.ext_getElem?
 intro k
 rw [List.getElem?_take]
 split
 ·rename_i hk
  have e1:(p + k) / 128=p / 128:=by omega
  have e2:(p + k) % 128=p % 128 + k:=by omega
  rw [List.getElem?_drop,BY_get R p t k hk,byteAt,e1,e2,List.getD_eq_getElem?_getD,List.getElem?_eq_getElem (by omega)]
  rfl
 ·rename_i hk
  rw [List.getElem?_eq_none (by rw [BY_len];omega)]
theorem BY_lay (R:Nat→List Int) (o j t m:Nat) (h:j + t≤m):((SA (BY R o j ++ List.replicate (m - j) 0)).toList.take j ++ (BY R (o + j) t).map (Value.int .u8) ++ (SA (BY R o j ++ List.replicate (m - j) 0)).toList.drop (j + t)).toArray=SA (BY R o (j + t) ++ List.replicate (m - (j + t)) 0):=by
 have e1:(SA (BY R o j ++ List.replicate (m - j) 0)).toList=(BY R o j).map (Value.int .u8) ++ List.replicate (m - j) (Value.int .u8 0):=by simp [SA]
 have e2:((BY R o j).map (Value.int .u8)).length=j:=by rw [List.length_map,BY_len]
 rw [e1,List.take_append_of_le_length (by omega),List.take_of_length_le (by omega),List.drop_append,List.drop_of_length_le (by omega),BY_add,List.drop_replicate,e2]
 have e3:m - j - (j + t - j)=m - (j + t):=by omega
 rw [e3]
 simp [SA]
set_option maxHeartbeats 4000000 in
set_option maxRecDepth 100000 in
theorem read_many {c:NC} {x:Nd} (R:Nat→List Int) (o m:Nat) (cnt:Int) (w:World) (hx:IsN w c x) (hR:∀ b:Nat,(match x.blk (b:Int) with | some v=>v | none=>Value.agg (SA Zs))=.agg (SA (R b))∧(R b).length=128) (hlt:(o:Int) < x.size) (hc0:0≤cnt) (hc1:cnt≤131072) (hz:x.size≤1000000) (hmin:(m:Int)=min cnt (x.size - o)) :
  Calls Tryz.prog 58 #[.pointer (some ⟨c.p,0,none⟩),.int .i64 (o:Int),.int .i64 cnt] w fun e w'=>e=.returned (.tuple #[.slice (some ⟨w.heap.size,0,none⟩) m m,.int .i64 0])∧w'.heap[w.heap.size]? = some (.cells (SA (BY R o m)) 5 (0,0))∧Chg w w' No:=by
 have HX:=hid hx;have HR:=hid hR;have c3:=hx.c3;obtain ⟨xs,hxs⟩:∃ y,y=x.size:=⟨_,rfl⟩;rw [←hxs] at c3 hz hmin hlt;obtain ⟨of,hof⟩:∃ y:Int,y=(o:Int):=⟨_,rfl⟩;rw [←hof] at hmin ⊢
 have f0':0≤of:=by omega
 have f0 : ¬ of < 0:=by omega
 have f1 : ¬ cnt < 0:=by omega
 have f2 : ¬ (131072:Int) < cnt:=by omega
 rw [←hof] at hlt
 have f3 : ¬ xs≤of:=by omega
 have f3':of < xs:=by omega
 have f4:of≤1000000:=by omega
 have f5:(m:Int)≤131072:=by omega
 replace hmin:=hmin.symm
 have hmk:(Instr.makeSlice 32 (.int .i64 (min cnt (xs - of))) (.int .i64 (min cnt (xs - of)))).run Tryz.prog w=.ok (.slice (some ⟨w.heap.size,0,none⟩) m m) (w.alloc (.cells (SA (List.replicate m 0)) 5)):=by rw [hmin];exact make_bytesL m (by omega) w
 obtain ⟨zs,hzs⟩:∃ y,y=SA (List.replicate m 0):=⟨_,rfl⟩;rw [←hzs] at hmk;have HZ:Hid (zs.size=m∧zs=SA (List.replicate m 0)):=hid ⟨by rw [hzs,SA_size,List.length_replicate],hzs⟩;have HO:=hid hof;clear hx hR hof hxs hzs hmin
 go_enter Tryz.func58,Tryz.ntmps58
 go_upto_region 6 with fail
 have hW0:(w.alloc (.cells zs 5)).heap[w.heap.size]? = some (.cells zs 5 (0,0)):=heap_alloc_new w _;have hC0:Chg w (w.alloc (.cells zs 5)) No:=Chg.alloc w _ No;obtain ⟨W0,hWW⟩:∃ y,y=w.alloc (.cells zs 5):=⟨_,rfl⟩;rw [←hWW] at hW0 hC0 ⊢;have H0:=hid (And.intro hW0 hC0);clear hWW hW0 hC0 hmk c3
 go_wp2_with fail
 go_loopw [9] (fun x9 wr=>∃ j:Nat,x9=.int .i64 (j:Int)∧j≤m∧Hid (wr.heap[w.heap.size]? = some (.cells (SA (BY R o j ++ List.replicate (m - j) 0)) 5 (0,0))∧Chg w wr No)) (fun x9 _=>m - (intOf x9).toNat)
 case atStart=>exact ⟨0,rfl,Nat.zero_le _,hid ⟨by rw [H0.out.1,HZ.out.2];simp [BY],H0.out.2⟩⟩
 case round =>
  obtain ⟨j,rfl,hj,HJ⟩:=hrel;clear H0
  by_cases hjm:j < m
  ·have HC:Hid (Chg w wr No):=hid HJ.out.2
   obtain ⟨ys,hys⟩:∃ y,y=SA (BY R o j ++ List.replicate (m - j) 0):=⟨_,rfl⟩;have HD:Hid (wr.heap[w.heap.size]? = some (.cells ys 5 (0,0))):=hid (by rw [hys];exact HJ.out.1);clear HJ;obtain ⟨b,hb⟩:∃ y,y=(o + j) / 128:=⟨_,rfl⟩;obtain ⟨u,hu⟩:∃ y,y=(o + j) % 128:=⟨_,rfl⟩;obtain ⟨t,ht⟩:∃ y,y=Nat.min (128 - u) (m - j):=⟨_,rfl⟩
   have ht1:t≤128 - u:=by rw [ht];exact Nat.min_le_left _ _
   have ht2:t≤m - j:=by rw [ht];exact Nat.min_le_right _ _
   have hol:u < 128:=by omega
   have ht3:0 < t:=by rw [ht];exact Nat.lt_min.2 ⟨by omega,by omega⟩
   have hof:=HO.out
   have p0:0≤of + (j:Int):=by omega
   have t1:(of + (j:Int)).tdiv 128=(b:Int):=by rw [Int.tdiv_eq_ediv_of_nonneg p0];omega
   have t3:(of + (j:Int)).tmod 128=(u:Int):=by rw [Int.tmod_eq_emod_of_nonneg p0];omega
   have t2:(of + (j:Int)) / 128=(b:Int):=by omega
   have t4:(of + (j:Int)) % 128=(u:Int):=by omega
   obtain ⟨l,hll⟩:∃ y,y=R b:=⟨_,rfl⟩;have HBl:Hid ((match x.blk (b:Int) with | some v=>v | none=>Value.agg (SA Zs))=.agg (SA l)):=hid (by rw [hll];exact (HR.out b).1);have HL:Hid (l.length=128):=hid (by rw [hll];exact (HR.out b).2);have HCs:Hid (((l.drop u).take t)=BY R (o + j) t):=hid (by rw [hll,hb,hu];exact BY_block R (o + j) t (HR.out _).2 (by omega));have HLy:Hid ((ys.toList.take j ++ (BY R (o + j) t).map (Value.int .u8) ++ ys.toList.drop (j + t)).toArray=SA (BY R o (j + t) ++ List.replicate (m - (j + t)) 0)):=hid (by rw [hys];exact BY_lay R o j t m (by omega));have HYs:Hid (ys.size=m):=hid (by rw [hys,SA_size,List.length_append,BY_len,List.length_replicate];omega)
   have HSr:Hid (∀ (W:World) (gs:Nat),W.heap[gs]? = some (.cells (SA l) 131 (0,0))→∀ (j:Nat) v,(((l.drop u).take t).map (Value.int .u8))[j]? = some v→W.cell? ((⟨gs,u,none⟩:Addr).add j)=some v):=hid (fun W gs hg j v hv=>by
    rw [addr_add,cell_of_row _ _ _ _ _ _ hg];rw [List.getElem?_map,List.getElem?_take] at hv
    split at hv
    ·rw [List.getElem?_drop] at hv
     simpa [SA] using hv
    ·cases hv)
   rw [HCs.out] at HSr;have HLc:Hid (((BY R (o + j) t).map (Value.int .u8)).length=t):=hid (by rw [List.length_map,BY_len]);have HT:=hid ht;clear hys hll hb hu ht hof HCs;have q4:=(HX.out.call HC.out).c4;have HM:=hid (HX.out.call HC.out).bl;have hI:I64 (b:Int):=⟨by omega,by rw [←t1,Int.tdiv_eq_ediv_of_nonneg p0];omega⟩
   have j1:(j:Int) < (m:Int):=by omega
   have wv0:IntKind.i64.wrap (of + (j:Int))=of + (j:Int):=by rw [IntKind.wrap_i64];omega
   have wv1:IntKind.i64.wrap ((j:Int) + (t:Int))=(j:Int) + (t:Int):=by rw [IntKind.wrap_i64];omega
   go_upto_region 9 with (first
    | (at_lookup;go_must (refine wp_lookVB rfl _ _ rfl c.bb x.blk (b:Int) _ HBl.out rfl rfl HM.out hI ?_))
    | (refine store_R rfl 131 _ _ rfl wr.heap.size (SA l) rfl rfl 131 _ (heap_alloc_new _ _) (by rw [szSec,SA_size,HL.out]) (by rw [SA_size,HL.out];rfl) (SA_one l) ?_;intro w3 hw3;have HG3:=hid hw3.here;have HD3:=hid (putR_keep hw3 ((Chg.alloc wr _ No).keep HD.out (fun e=>e)) (by have:=slt HD.out;omega));have HC3:Hid (Chg w w3 No):=hid ((HC.out.tr (Chg.alloc wr _ No)).trans (kt_new hw3) (fun _ _ e=>e) (fun j hj e=>by have:=HC.out.size;omega));clear hw3)
    | fail)
   obtain ⟨gs,hgs⟩:∃ y,y=wr.heap.size:=⟨_,rfl⟩;rw [←hgs] at HG3 ⊢;clear hgs HM HC q4 HD
   simp only [Act.put]
   refine wp_region_noPanic ?_;refine wp_region_held_drew (S:=fun w'=>Chg w w' No) (by kernel_rfl) HC3.out.drew (fun hH => ?_);have hG:w3.drew.heap[gs]? = some (.cells (SA l) 131 (0,0)):=HG3.out;have hD:w3.drew.heap[w.heap.size]? = some (.cells ys 5 (0,0)):=HD3.out;refine tV 0 49 (.int .i64 (j:Int)) rfl (by kernel_rfl) rfl (by rfl) hH (fun W' hw'=>rfl) ?_;simp only [sS];refine tV 1 50 (.slice (some ⟨w.heap.size,0,none⟩) m m) rfl (by kernel_rfl) rfl (by rfl) hH (fun W' hw'=>rfl) ?_;simp only [sS];refine tV 2 51 (.int .i64 (j:Int)) rfl (by kernel_rfl) rfl (by rfl) hH (fun W' hw'=>rfl) ?_;simp only [sS];refine tV 3 52 (.slice (some ⟨w.heap.size,j,none⟩) (m - j) (m - j)) rfl (by kernel_rfl) rfl (by rfl) hH (fun W' hw'=>by go_simp;intro e;omega) ?_;simp only [sS];refine tV 4 53 (.int .i64 of) rfl (by kernel_rfl) rfl (by rfl) hH (fun W' hw'=>rfl) ?_;simp only [sS];refine tV 5 54 (.int .i64 (j:Int)) rfl (by kernel_rfl) rfl (by rfl) hH (fun W' hw'=>rfl) ?_;simp only [sS]
   refine tV 6 55 (.int .i64 (of + (j:Int))) rfl (by kernel_rfl) rfl (by rfl) hH (fun W' hw'=>by go_simp <;> exact wv0) ?_
   simp only [sS];refine tV 7 56 (.int .i64 (u:Int)) rfl (by kernel_rfl) rfl (by rfl) hH (fun W' hw'=>by go_simp) ?_;simp only [sS];refine tV 8 57 (.slice (some ⟨gs,u,none⟩) (128 - u) (128 - u)) rfl (by kernel_rfl) rfl (by rfl) hH (fun W' hw'=>by go_simp;rw [run_sec _ gs u hol];rfl) ?_;simp only [sS];refine step1 9 (by kernel_rfl) ?_;refine stCopy 9 58 (.tmp 52) (.tmp 57) w.heap.size j (m - j) (m - j) ⟨gs,u,none⟩ (128 - u) (128 - u) ys 5 ((BY R (o + j) t).map (Value.int .u8)) rfl rfl (by rfl) rfl rfl rfl hD (by rw [HLc.out];exact HT.out) (HSr.out _ gs hG) (by rw [HLc.out,HYs.out];omega) (by intro v hv;obtain ⟨y,_,rfl⟩:=List.mem_map.1 hv;rfl) ?_
   intro w4 hw4
   rw [HLc.out,HLy.out] at hw4;have hH4:Chg w w4 No:=hH.trans (kt_new hw4) (fun _ _ e=>e) (fun j hj e=>by omega);refine ⟨hH4,?_⟩;rw [HLc.out]
   simp only [List.setIfInBounds_toArray,List.set_cons_zero,List.set_cons_succ,goInt]
   refine tV 10 59 (.int .i64 ((j:Int) + (t:Int))) rfl (by kernel_rfl) rfl (by rfl) hH4 (fun W' hw'=>by go_simp <;> exact wv1) ?_
   simp only [sS];refine tV 11 9 (.int .i64 ((j:Int) + (t:Int))) rfl (by kernel_rfl) rfl (by rfl) hH4 (fun W' hw'=>rfl) ?_;simp only [sS];refine wpAnyH_done (by kernel_rfl) ?_ _;refine NoPanic.normal ?_;have HE:=hid (And.intro hw4.here hH4);clear hH hH4 hw4 hG hD HG3 HC3 HD3
   go_wp2_with fail
   exact ⟨⟨j + t,by rw [Int.natCast_add],by omega,hid ⟨HE.out.1,HE.out.2⟩⟩,by simp [intOf];omega⟩
  ·obtain rfl:j=m:=by omega
   have HE:=hid (And.intro (show wr.heap[w.heap.size]? = some (.cells (SA (BY R o j)) 5 (0,0)) by have e:=HJ.out.1;rw [Nat.sub_self,List.replicate_zero,List.append_nil] at e;exact e) HJ.out.2);clear HJ
   go_wp2_with fail
   go_ret2
   exact ⟨rfl,HE.out.1,HE.out.2⟩
end Go.Proofs.YtmgfilacepnjlaaGreatDoor

namespace Go.Proofs.YtmgfilacepnjlaaGreatDoor
open Go.RowKit

def ovR (R:Nat→List Int) (o:Nat) (ds:List Int) (j b:Nat):List Int:=(List.range 128).map fun k=>if o≤128 * b + k∧128 * b + k < o + j then ds.getD (128 * b + k - o) 0 else (R b).getD k 0
theorem ov_len (R:Nat→List Int) (o:Nat) (ds:List Int) (j b:Nat):(ovR R o ds j b).length=128:=by simp [ovR]
theorem ov_get (R:Nat→List Int) (o:Nat) (ds:List Int) (j b k:Nat) (h:k < 128):(ovR R o ds j b)[k]? = some (if o≤128 * b + k∧128 * b + k < o + j then ds.getD (128 * b + k - o) 0 else (R b).getD k 0):=by simp [ovR,h]
theorem ov_same (R:Nat→List Int) (o:Nat) (ds:List Int) (j b:Nat) (hl:(R b).length=128) (h:j=0∨b < o / 128∨o + j≤128 * b):ovR R o ds j b=R b:=by
 apply List.ext_getElem?
 intro k
 by_cases hk:k < 128
 ·rw [ov_get _ _ _ _ _ _ hk,if_neg (by omega),List.getD_eq_getElem?_getD,List.getElem?_eq_getElem (by omega)]
  rfl
 ·rw [List.getElem?_eq_none (by rw [ov_len];omega),List.getElem?_eq_none (by omega)]
theorem ov_other (R:Nat→List Int) (o:Nat) (ds:List Int) (j t b:Nat) (h:b < (o + j) / 128):ovR R o ds (j + t) b=ovR R o ds j b:=by
 apply List.ext_getElem?
 intro k
 by_cases hk:k < 128
 ·rw [ov_get _ _ _ _ _ _ hk,ov_get _ _ _ _ _ _ hk]
  have e:(o≤128 * b + k∧128 * b + k < o + (j + t))=(o≤128 * b + k∧128 * b + k < o + j):=propext ⟨fun e=>⟨e.1,by omega⟩,fun e=>⟨e.1,by omega⟩⟩
  simp only [e]
 ·rw [List.getElem?_eq_none (by rw [ov_len];omega),List.getElem?_eq_none (by rw [ov_len];omega)]
theorem ov_step (R:Nat→List Int) (o:Nat) (ds:List Int) (j t:Nat) (ht:(o + j) % 128 + t≤128) (hd:j + t≤ds.length):laidL (ovR R o ds j ((o + j) / 128)) ((o + j) % 128) ((ds.drop j).take t)=ovR R o ds (j + t) ((o + j) / 128):=by
 have hlen:((ds.drop j).take t).length=t:=by rw [List.length_take,List.length_drop];omega
 have h1:((ovR R o ds j ((o + j) / 128)).take ((o + j) % 128)).length=(o + j) % 128:=by rw [List.length_take,ov_len];omega
 apply List.ext_getElem?
 intro k
 by_cases hk:k < 128
 ·rw [ov_get _ _ _ _ _ _ hk,laidL,hlen]
  by_cases k1:k < (o + j) % 128
  ·rw [List.append_assoc,List.getElem?_append_left (by omega),List.getElem?_take,if_pos k1,ov_get _ _ _ _ _ _ hk]
   have e:(o≤128 * ((o + j) / 128) + k∧128 * ((o + j) / 128) + k < o + (j + t))=(o≤128 * ((o + j) / 128) + k∧128 * ((o + j) / 128) + k < o + j):=propext ⟨fun e=>⟨e.1,by omega⟩,fun e=>⟨e.1,by omega⟩⟩
   simp only [e]
  ·by_cases k2:k < (o + j) % 128 + t
   ·rw [List.getElem?_append_left (by rw [List.length_append,hlen,h1];omega),List.getElem?_append_right (by omega),h1,List.getElem?_take,if_pos (by omega),List.getElem?_drop,if_pos (by omega),List.getD_eq_getElem?_getD]
    have e:j + (k - (o + j) % 128)=128 * ((o + j) / 128) + k - o:=by omega
    rw [e,List.getElem?_eq_getElem (by omega)]
    rfl
   ·rw [List.getElem?_append_right (by rw [List.length_append,hlen,h1];omega),List.length_append,hlen,h1,List.getElem?_drop,if_neg (by omega)]
    have e:(o + j) % 128 + t + (k - ((o + j) % 128 + t))=k:=by omega
    rw [e,ov_get _ _ _ _ _ _ hk,if_neg (by omega)]
 ·rw [List.getElem?_eq_none (by rw [laid_len (ov_len _ _ _ _ _) (by omega)];omega),List.getElem?_eq_none (by rw [ov_len];omega)]
def wblk (f:Int→Option Value) (R:Nat→List Int) (o:Nat) (ds:List Int) (j:Nat):Int→Option Value:=fun y=>if 0 < j∧((o / 128:Nat):Int)≤y∧128 * y < (o:Int) + j then some (.agg (SA (ovR R o ds j y.toNat))) else f y
theorem wblk_zero (f:Int→Option Value) (R:Nat→List Int) (o:Nat) (ds:List Int):wblk f R o ds 0=f:=by
 funext y
 simp [wblk]
theorem wblk_row {f:Int→Option Value} {R:Nat→List Int} (hR:∀ b:Nat,(match f (b:Int) with | some v=>v | none=>Value.agg (SA Zs))=.agg (SA (R b))∧(R b).length=128) (o:Nat) (ds:List Int) (j b:Nat):(match wblk f R o ds j (b:Int) with | some v=>v | none=>Value.agg (SA Zs))=.agg (SA (ovR R o ds j b)):=by
 unfold wblk
 by_cases h:0 < j∧((o / 128:Nat):Int)≤(b:Int)∧128 * (b:Int) < (o:Int) + j
 ·rw [if_pos h,Int.toNat_natCast]
 ·rw [if_neg h,ov_same R o ds j b (hR b).2 (by omega)]
  exact (hR b).1
theorem wblk_step (f:Int→Option Value) (R:Nat→List Int) (o:Nat) (ds:List Int) (j t:Nat) (h0:0 < t) (ht:(o + j) % 128 + t≤128) (hd:j + t≤ds.length) :
  (fun y=>if y=(((o + j) / 128:Nat):Int) then some (.agg (SA (laidL (ovR R o ds j ((o + j) / 128)) ((o + j) % 128) ((ds.drop j).take t)))) else wblk f R o ds j y)=wblk f R o ds (j + t):=by
 funext y
 rw [ov_step R o ds j t ht hd]
 by_cases hy:y=(((o + j) / 128:Nat):Int)
 ·rw [if_pos hy]
  unfold wblk;rw [if_pos (by omega),hy,Int.toNat_natCast]
 ·rw [if_neg hy]
  unfold wblk
  by_cases hc:0 < j∧((o / 128:Nat):Int)≤y∧128 * y < (o:Int) + j
  ·rw [if_pos hc,if_pos (by omega),ov_other R o ds j t y.toNat (by omega)]
  ·rw [if_neg hc,if_neg (by omega)]
def wroteM (x:Nd) (R:Nat→List Int) (o:Nat) (ds:List Int):Nd:={ x with blk:=wblk x.blk R o ds ds.length,size:=max x.size ((o:Int) + ds.length) }

set_option maxHeartbeats 4000000 in
set_option maxRecDepth 100000 in
theorem write_many {q:PC} {s:PSt} {c:NC} {x:Nd} (R:Nat→List Int) (o:Nat) (ds:List Int) (gd od dc:Nat) (w:World) (h:IsPl w q s) (hx:IsN w c x) (hR:∀ b:Nat,(match x.blk (b:Int) with | some v=>v | none=>Value.agg (SA Zs))=.agg (SA (R b))∧(R b).length=128) (hd:1≤ds.length) (hd2:ds.length≤131072) (ho:o + ds.length≤136704) (hr:roomB s x (o / 128) ((o + ds.length - 1) / 128 + 1)=true)
  (hda:∀ (W:World),Chg w W (BlkN c)→∀ (j:Nat) v,(ds.map (Value.int .u8))[j]? = some v→W.cell? ((⟨gd,od,none⟩:Addr).add j)=some v) (hdc:ds.length≤dc) :
  Calls Tryz.prog 56 #[.pointer (some ⟨q.p,0,none⟩),.pointer (some ⟨c.p,0,none⟩),.int .i64 (o:Int),.slice (some ⟨gd,od,none⟩) ds.length dc] w fun e w'=>e=.returned (.int .i64 0)∧IsN w' c (wroteM x R o ds)∧Chg w w' (BlkN c):=by
 obtain ⟨b0,hb0⟩:∃ y,y=o / 128:=⟨_,rfl⟩;obtain ⟨b1,hb1⟩:∃ y,y=(o + ds.length - 1) / 128:=⟨_,rfl⟩;rw [←hb0,←hb1] at hr;have hRm:=hasRoom_any (q:=q) (s:=s) b0 b1 w h hx (by omega) (by omega);rw [hr] at hRm;have HX:=hid hx;have HDa:=hid hda;have HR:=hid hR;obtain ⟨n,hn⟩:∃ y,y=ds.length:=⟨_,rfl⟩;rw [←hn] at hd hd2 ho hdc hb1 ⊢;have HNn:=hid hn;obtain ⟨of,hof⟩:∃ y:Int,y=(o:Int):=⟨_,rfl⟩;rw [←hof]
 have f0 : ¬ of < 0:=by omega
 have f0':0≤of:=by omega
 have f1 : ¬ (131072:Int) < (n:Int):=by omega
 have f2 : ¬ (136704:Int) - (n:Int) < of:=by omega
 have f3 : ¬ (n:Int)=0:=by omega
 have f3b:((n:Int) == 0)=false:=beq_eq_false_iff_ne.2 f3
 have f4:of≤136704:=by omega
 have f5:(n:Int)≤131072:=by omega
 have t1:of.tdiv 128=(b0:Int):=by rw [Int.tdiv_eq_ediv_of_nonneg f0'];omega
 have t2:(of + (n:Int) - 1).tdiv 128=(b1:Int):=by rw [Int.tdiv_eq_ediv_of_nonneg (by omega)];omega
 have HOf:=hid hof
 have t1':of / 128=(b0:Int):=by omega
 have t2':(of + (n:Int) - 1) / 128=(b1:Int):=by omega
 clear h hx hda hR hr hn hof hb0 hb1
 go_enter Tryz.func56,Tryz.ntmps56
 go_upto_region 8 with (first
  | (go_at_call 65;go_must (refine hRm.mono ?_;rintro e w2 ⟨rfl,hc2⟩;have HC2:=hid hc2;clear hc2))
  | fail)
 clear hRm
 go_wp2_with fail
 clear t1 t2 t1' t2'
 go_loopw [10] (fun x10 wr=>∃ j:Nat,x10=.int .i64 (j:Int)∧j≤n∧Hid (IsN wr c { x with blk:=wblk x.blk R o ds j }∧Chg w wr (BlkN c))) (fun x10 _=>n - (intOf x10).toNat)
 case atStart=>exact ⟨0,rfl,Nat.zero_le _,hid ⟨by rw [wblk_zero];exact HX.out.call HC2.out,HC2.out.mono fun _ _ e=>e.elim⟩⟩
 case round =>
  obtain ⟨j,rfl,hj,HJ⟩:=hrel;clear HC2 HX
  by_cases hjn:j < n
  ·obtain ⟨w0,hw0⟩:∃ y,y=wr:=⟨_,rfl⟩
   have HC:Hid (Chg w0 wr No):=hid (by rw [hw0];exact Chg.refl _ _);have HCw:Hid (Chg w w0 (BlkN c)):=hid (by rw [hw0];exact HJ.out.2);obtain ⟨f,hf⟩:∃ y,y=wblk x.blk R o ds j:=⟨_,rfl⟩;have HX:Hid (IsN w0 c { x with blk:=f }):=hid (by rw [hw0,hf];exact HJ.out.1);clear HJ hw0;obtain ⟨b,hb⟩:∃ y,y=(o + j) / 128:=⟨_,rfl⟩;obtain ⟨u,hu⟩:∃ y,y=(o + j) % 128:=⟨_,rfl⟩;obtain ⟨t,ht⟩:∃ y,y=Nat.min (n - j) (128 - u):=⟨_,rfl⟩
   have ht1:t≤128 - u:=by rw [ht];exact Nat.min_le_right _ _
   have ht2:t≤n - j:=by rw [ht];exact Nat.min_le_left _ _
   have hol:u < 128:=by omega
   have ht3:0 < t:=by rw [ht];exact Nat.lt_min.2 ⟨by omega,by omega⟩
   have hof:=HOf.out;have hnn:=HNn.out
   have p0:0≤of + (j:Int):=by omega
   have t1:(of + (j:Int)).tdiv 128=(b:Int):=by rw [Int.tdiv_eq_ediv_of_nonneg p0];omega
   have t3:(of + (j:Int)).tmod 128=(u:Int):=by rw [Int.tmod_eq_emod_of_nonneg p0];omega
   have t2:(of + (j:Int)) / 128=(b:Int):=by omega
   have t4:(of + (j:Int)) % 128=(u:Int):=by omega
   have hbb:b < 1068:=by omega
   obtain ⟨l,hll⟩:∃ y,y=ovR R o ds j b:=⟨_,rfl⟩;have HBl:Hid ((match f (b:Int) with | some v=>v | none=>Value.agg (SA Zs))=.agg (SA l)):=hid (by rw [hll,hf];exact wblk_row HR.out o ds j b);have HL:Hid (l.length=128):=hid (by rw [hll];exact ov_len _ _ _ _ _);obtain ⟨es,hes⟩:∃ y,y=(ds.drop j).take t:=⟨_,rfl⟩;have HEs:Hid (t=es.length):=hid (by rw [hes,List.length_take,List.length_drop];omega);have HSt:Hid ((fun y=>if y=(b:Int) then some (.agg (SA (laidL l u es))) else f y)=wblk x.blk R o ds (j + t)):=hid (by rw [hll,hf,hes,hb,hu];exact wblk_step x.blk R o ds j t ht3 (by omega) (by omega))
   have HEa:Hid (∀ (W:World),Chg w0 W No→∀ (k:Nat) v,(es.map (Value.int .u8))[k]? = some v→W.cell? ((⟨gd,od + j,none⟩:Addr).add k)=some v):=hid (fun W hW k v hv=>by
    have e:=HDa.out W (HCw.out.trans hW (fun _ _ e=>e) (fun _ _ e=>e.elim)) (j + k) v (by
     rw [hes,List.getElem?_map,List.getElem?_take] at hv
     split at hv
     ·rw [List.getElem?_drop] at hv
      rw [List.getElem?_map]
      exact hv
     ·cases hv)
    rw [addr_add] at e ⊢;rw [Nat.add_assoc]
    exact e)
   have HT:=hid ht;have HGe0:Hid (c.bb < w0.heap.size):=hid HX.out.bl.lt;clear hf hb hu ht hof hnn hll hes;have q4:=(HX.out.call HC.out).c4;have HM:=hid (HX.out.call HC.out).bl;have hI:I64 (b:Int):=⟨by omega,by omega⟩
   have j1:(j:Int) < (n:Int):=by omega
   have wv0:IntKind.i64.wrap (of + (j:Int))=of + (j:Int):=by rw [IntKind.wrap_i64];omega
   have wv1:IntKind.i64.wrap ((j:Int) + (t:Int))=(j:Int) + (t:Int):=by rw [IntKind.wrap_i64];omega
   go_upto_region 12 with (first
    | (at_lookup;go_must (refine wp_lookVB rfl _ _ rfl c.bb f (b:Int) _ HBl.out rfl rfl HM.out hI ?_))
    | (refine store_R rfl 131 _ _ rfl wr.heap.size (SA l) rfl rfl 131 _ (heap_alloc_new _ _) (by rw [szSec,SA_size,HL.out]) (by rw [SA_size,HL.out];rfl) (SA_one l) ?_;intro w3 hw3;have HG3:=hid hw3.here;have HC3:Hid (Chg w0 w3 No):=hid ((HC.out.tr (Chg.alloc wr _ No)).trans (kt_new hw3) (fun _ _ e=>e) (fun j hj e=>by have:=HC.out.size;omega));have HGe:Hid (w0.heap.size≤wr.heap.size):=hid HC.out.size;clear hw3)
    | fail)
   obtain ⟨gs,hgs⟩:∃ y,y=wr.heap.size:=⟨_,rfl⟩;rw [←hgs] at HG3 HGe ⊢;clear hgs HM HC q4
   simp only [Act.put]
   refine wp_region_noPanic ?_;refine wp_region_held_drew (S:=fun w'=>Chg w0 w' No) (by kernel_rfl) HC3.out.drew (fun hH => ?_);have hG:w3.drew.heap[gs]? = some (.cells (SA l) 131 (0,0)):=HG3.out;refine tV 0 57 (.int .i64 (j:Int)) rfl (by kernel_rfl) rfl (by rfl) hH (fun W' hw'=>rfl) ?_;simp only [sS];refine tV 1 58 (.int .i64 of) rfl (by kernel_rfl) rfl (by rfl) hH (fun W' hw'=>rfl) ?_;simp only [sS];refine tV 2 59 (.int .i64 (j:Int)) rfl (by kernel_rfl) rfl (by rfl) hH (fun W' hw'=>rfl) ?_;simp only [sS]
   refine tV 3 60 (.int .i64 (of + (j:Int))) rfl (by kernel_rfl) rfl (by rfl) hH (fun W' hw'=>by go_simp <;> exact wv0) ?_
   simp only [sS];refine tV 4 61 (.int .i64 (u:Int)) rfl (by kernel_rfl) rfl (by rfl) hH (fun W' hw'=>by go_simp) ?_;simp only [sS];refine tV 5 62 (.slice (some ⟨gs,u,none⟩) (128 - u) (128 - u)) rfl (by kernel_rfl) rfl (by rfl) hH (fun W' hw'=>by go_simp;rw [run_sec _ gs u hol];rfl) ?_;simp only [sS];refine tV 6 63 (.slice (some ⟨gd,od,none⟩) n dc) rfl (by kernel_rfl) rfl (by rfl) hH (fun W' hw'=>rfl) ?_;simp only [sS];refine tV 7 64 (.int .i64 (j:Int)) rfl (by kernel_rfl) rfl (by rfl) hH (fun W' hw'=>rfl) ?_;simp only [sS];refine tV 8 65 (.slice (some ⟨gd,od + j,none⟩) (n - j) (dc - j)) rfl (by kernel_rfl) rfl (by rfl) hH (fun W' hw'=>by go_simp;intro e;omega) ?_;simp only [sS];refine step1 9 (by kernel_rfl) ?_;refine stCopy 9 66 (.tmp 62) (.tmp 65) gs u (128 - u) (128 - u) ⟨gd,od + j,none⟩ (n - j) (dc - j) (SA l) 131 (es.map (Value.int .u8)) rfl rfl (by rfl) rfl rfl rfl hG (by rw [List.length_map,←HEs.out];exact HT.out) (HEa.out _ hH) (by rw [List.length_map,←HEs.out,SA_size,HL.out];omega) (by intro v hv;obtain ⟨y,_,rfl⟩:=List.mem_map.1 hv;rfl) ?_
   intro w4 hw4
   rw [laid_SA] at hw4;have hH4:Chg w0 w4 No:=hH.trans (kt_new hw4) (fun _ _ e=>e) (fun j hj e=>by have:=HGe.out;omega);refine ⟨hH4,?_⟩;rw [List.length_map,←HEs.out]
   simp only [List.setIfInBounds_toArray,List.set_cons_zero,List.set_cons_succ,goInt]
   refine tV 10 67 (.int .i64 ((j:Int) + (t:Int))) rfl (by kernel_rfl) rfl (by rfl) hH4 (fun W' hw'=>by go_simp <;> exact wv1) ?_
   simp only [sS];refine tV 11 10 (.int .i64 ((j:Int) + (t:Int))) rfl (by kernel_rfl) rfl (by rfl) hH4 (fun W' hw'=>rfl) ?_;simp only [sS];refine wpAnyH_done (by kernel_rfl) ?_ _;refine NoPanic.normal ?_;have HG4:Hid (w4.heap[gs]? = some (.cells (SA (laidL l u es)) 131 (0,0))):=hid hw4.here;have HC4:=hid hH4;clear hH hH4 hw4 hG HG3 HC3
   go_upto_region 13 with fail
   have HQ4:Hid (∀ W,Chg w0 W (· = c.bb)→W.cell? ⟨c.p,4,none⟩=some (.map (some c.bb))):=hid (fun W hW=>(cell_of_row _ _ _ _ _ _ (hW.keep HX.out.me HX.out.pNe.1)).trans rfl);refine wp_region_noPanic ?_;refine wp_region_held_drew (S:=fun w'=>Chg w0 w' (· = c.bb)∧w'.heap[gs]? = some (.cells (SA (laidL l u es)) 131 (0,0))) (by kernel_rfl) ⟨(HC4.out.mono fun _ _ e=>e.elim).drew,HG4.out⟩ (fun hH => ?_);refine tV 0 68 (.pointer (some ⟨c.p,0,none⟩)) rfl (by kernel_rfl) rfl (by rfl) hH (fun W' hw'=>rfl) ?_;simp only [sS];refine tV 1 69 (.pointer (some ⟨c.p,0,none⟩)) rfl (by kernel_rfl) rfl (by rfl) hH (fun W' hw'=>by go_simp) ?_;simp only [sS];refine tV 2 70 (.pointer (some ⟨c.p,4,none⟩)) rfl (by kernel_rfl) rfl (by rfl) hH (fun W' hw'=>by go_simp) ?_;simp only [sS];refine tV 3 71 (.map (some c.bb)) rfl (by kernel_rfl) rfl (by rfl) hH (fun W' hw'=>by have hc:=HQ4.out W' hw'.1;go_simp) ?_;simp only [sS];refine tV 4 72 (.int .i64 (b:Int)) rfl (by kernel_rfl) rfl (by rfl) hH (fun W' hw'=>rfl) ?_;simp only [sS];refine takeR 5 73 131 (.tmp 12) gs 131 (SA (laidL l u es)) _ rfl (by kernel_rfl) (by kernel_rfl) (by kernel_rfl) rfl rfl rfl Tryz.underlying131 rfl (by rw [szSec,SA_size,laid_len HL.out (by rw [←HEs.out];omega)]) (by rfl) (fun _ _ _ h=>h) hH (fun W' hw'=>hw'.2) ?_;simp only [sS];have hX5:IsN w4.drew c { x with blk:=f }:=HX.out.call HC4.out.drew;refine step1 6 (by kernel_rfl) ?_;refine stPutB 6 (.tmp 71) (.tmp 72) (.tmp 73) c.bb f (b:Int) (.agg (SA (laidL l u es))) rfl rfl (by rfl) rfl rfl rfl rfl hX5.bl hI hX5.small ?_
   intro w6 hm6 hc6 hz6
   have hgb:gs≠c.bb:=by have:=HGe0.out;have:=HGe.out;omega
   refine ⟨⟨hH.1.trans hc6 (fun _ _ e=>e) (fun _ _ e=>e),hc6.keep hH.2 hgb⟩,?_⟩;refine wpAnyH_done (by kernel_rfl) ?_ _;refine NoPanic.normal ?_;have HX6:=hid (hX5.block ⟨by omega,by omega⟩ hm6 hc6);have HC6:Hid (Chg w w6 (BlkN c)):=hid (HCw.out.trans ((hH.1.trans hc6 (fun _ _ e=>e) (fun _ _ e=>e)).mono fun _ _ e=>.inr (.inl e)) (fun _ _ e=>e) (fun _ _ e=>e));clear hH hX5 hm6 hc6 hz6 HC4 HG4 HQ4
   go_wp2_with fail
   exact ⟨⟨j + t,by rw [Int.natCast_add],by omega,hid ⟨by rw [←HSt.out];exact HX6.out,HC6.out⟩⟩,by simp [intOf];omega⟩
  ·obtain rfl:j=n:=by omega
   obtain ⟨hX6,hC6⟩:=HJ.out;have c3:=hX6.c3;have HX6:=hid hX6;have HC6:=hid hC6;have fz:wr.frozen? ⟨c.p,3,none⟩=false:=frozen_of_row _ _ _ _ _ hX6.me;have c3:wr.cell? ⟨c.p,3,none⟩=some (.int .i64 x.size):=c3
   have f7:of + (j:Int)≤200000:=by omega
   clear HJ hX6 hC6
   go_wp2_with fail
   go_ret
   obtain ⟨k1,k2⟩:=HX6.out.sized (max x.size (of + (j:Int)));refine ⟨rfl,?_,HC6.out.trans k2 (fun _ _ e=>e) (fun _ _ e=>.inl e)⟩;unfold wroteM;rw [←HNn.out,←HOf.out]
   exact k1
end Go.Proofs.YtmgfilacepnjlaaGreatDoor
