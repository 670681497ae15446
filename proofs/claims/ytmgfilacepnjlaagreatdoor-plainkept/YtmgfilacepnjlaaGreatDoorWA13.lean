/-
 package plain, as functions: bytes.
-/
import Derived.Test.YtmgfilacepnjlaaGreatDoorWA11
namespace Go.Proofs.YtmgfilacepnjlaaGreatDoor
open Go.RowKit

theorem walk_code (s:PSt):∀ (l:List ByteArray) (i:Int),(walkL s l i).2=0∨(walkL s l i).2=110∨(walkL s l i).2=113
 | [],_=>.inl rfl
 | n :: l,i=>by
  cases hx:s.nd i with
  | none =>
   have e1:walkL s (n :: l) i=(0,110):=by show (match s.nd i with | none=>_ | some x=>_)=_;rw [hx]
   rw [e1]
   exact .inr (.inl rfl)
  | some x =>
   rw [walkL_step hx]
   by_cases c:x.kind=2
   ·rw [if_pos c]
    cases findN x n with
    | none=>exact .inr (.inl rfl)
    | some j=>exact walk_code s l j
   ·rw [if_neg c];exact .inr (.inr rfl)
theorem lastE_code (s:PSt) (ls:List ByteArray):lastE s ls=0∨lastE s ls=110∨lastE s ls=113∨lastE s ls=143:=by
 unfold lastE
 split
 ·exact .inr (.inr (.inr rfl))
 ·split
  ·split
   ·split
    ·exact .inl rfl
    ·exact .inr (.inr (.inl rfl))
   ·exact .inr (.inr (.inl rfl))
  ·rcases walk_code s ls.dropLast 1 with e | e | e <;> omega
end Go.Proofs.YtmgfilacepnjlaaGreatDoor

namespace Go.Proofs.YtmgfilacepnjlaaGreatDoor
open Go.RowKit

def Cont (x:Nd) (bs:List Int):Prop:=bs.length=x.size.toNat∧∀ p,p < bs.length→bs.getD p 0=byteAt (rowsN x) p
def Z1 (x:Nd):Prop:=(∀ p:Nat,x.size≤(p:Int)→byteAt (rowsN x) p=0)∧x.size≤23299
def AllZ (s:PSt):Prop:=∀ i x,s.nd i=some x→Z1 x
theorem getD_append_l {l m:List Int} {p:Nat} (h:p < l.length):(l ++ m).getD p 0=l.getD p 0:=by
 rw [List.getD_eq_getElem?_getD,List.getElem?_append_left h,List.getD_eq_getElem?_getD]
theorem getD_append_r {l m:List Int} {p:Nat} (h:l.length≤p):(l ++ m).getD p 0=m.getD (p - l.length) 0:=by
 rw [List.getD_eq_getElem?_getD,List.getElem?_append_right h,List.getD_eq_getElem?_getD]
theorem getD_zeros (n p:Nat):(List.replicate n (0:Int)).getD p 0=0:=by
 rw [List.getD_eq_getElem?_getD,List.getElem?_replicate]
 split <;> rfl
theorem getD_out {l:List Int} {p:Nat} (h:l.length≤p):l.getD p 0=0:=by
 rw [List.getD_eq_getElem?_getD,List.getElem?_eq_none h]
 rfl
theorem getD_take {l:List Int} {n p:Nat} (h:p < n):(l.take n).getD p 0=l.getD p 0:=by
 rw [List.getD_eq_getElem?_getD,List.getElem?_take,if_pos h,List.getD_eq_getElem?_getD]
theorem getD_drop {l:List Int} {n p:Nat}:(l.drop n).getD p 0=l.getD (n + p) 0:=by
 rw [List.getD_eq_getElem?_getD,List.getElem?_drop,List.getD_eq_getElem?_getD]
theorem zs_at (k:Nat):Zs.getD k 0=0:=getD_zeros 128 k
theorem rows_some {y:Nd} {b:Nat} {l:List Int} (h:y.blk (b:Int)=some (Value.agg (SA l))):rowsN y b=l:=by
 unfold rowsN;rw [h]
 exact rowV_SA _
theorem rows_eq {x y:Nd} {b:Nat} (h:y.blk (b:Int)=x.blk (b:Int)):rowsN y b=rowsN x b:=by
 unfold rowsN;rw [h]
theorem rows_none {y:Nd} {b:Nat} (h:y.blk (b:Int)=none):rowsN y b=Zs:=by
 unfold rowsN;rw [h]
theorem rows_wrote {x:Nd} {o:Nat} {ds:List Int} (b:Nat):rowsN (wroteM x (rowsN x) o ds) b=if 0 < ds.length∧o / 128≤b∧128 * b < o + ds.length then ovR (rowsN x) o ds ds.length b else rowsN x b:=by
 have e:(wroteM x (rowsN x) o ds).blk (b:Int)=if 0 < ds.length∧((o / 128:Nat):Int)≤(b:Int)∧128 * (b:Int) < (o:Int) + ds.length then some (Value.agg (SA (ovR (rowsN x) o ds ds.length (b:Int).toNat))) else x.blk (b:Int):=rfl
 by_cases c:0 < ds.length∧o / 128≤b∧128 * b < o + ds.length
 ·rw [if_pos c]
  refine rows_some ?_;rw [e,if_pos ⟨c.1,by omega,by omega⟩,Int.toNat_natCast]
 ·rw [if_neg c]
  refine rows_eq ?_;rw [e,if_neg (fun d=>c ⟨d.1,by omega,by omega⟩)]
theorem byte_wrote {x:Nd} {o:Nat} {ds:List Int} (p:Nat):byteAt (rowsN (wroteM x (rowsN x) o ds)) p=if o≤p∧p < o + ds.length then ds.getD (p - o) 0 else byteAt (rowsN x) p:=by
 unfold byteAt;rw [rows_wrote]
 have hp:128 * (p / 128) + p % 128=p:=by omega
 by_cases c:0 < ds.length∧o / 128≤p / 128∧128 * (p / 128) < o + ds.length
 ·rw [if_pos c]
  have e:(ovR (rowsN x) o ds ds.length (p / 128)).getD (p % 128) 0=if o≤128 * (p / 128) + p % 128∧128 * (p / 128) + p % 128 < o + ds.length then ds.getD (128 * (p / 128) + p % 128 - o) 0 else (rowsN x (p / 128)).getD (p % 128) 0:=by
   unfold ovR;rw [List.getD_eq_getElem?_getD,List.getElem?_map,List.getElem?_range (by omega)]
   rfl
  rw [e,hp]
 ·rw [if_neg c,if_neg (fun d=>c ⟨by omega,by omega,by omega⟩)]
theorem Z1.wrote {x:Nd} {o:Nat} {ds:List Int} (h:Z1 x) (hb:o + ds.length≤23299):Z1 (wroteM x (rowsN x) o ds):=by
 refine ⟨fun p hp => ?_,?_⟩
 ·have hp:max x.size ((o:Int) + ds.length)≤(p:Int):=hp
  rw [byte_wrote,if_neg (by omega)]
  exact h.1 p (by omega)
 ·show max x.size ((o:Int) + ds.length)≤23299
  have:=h.2
  omega
def overL (l:List Int) (o:Nat) (ds:List Int):List Int:=l.take o ++ ds ++ l.drop (o + ds.length)
def writeB (bs:List Int) (o:Nat) (ds:List Int):List Int:=if ds=[] then bs else overL (bs ++ List.replicate (o + ds.length - bs.length) 0) o ds
theorem overL_len {l ds:List Int} {o:Nat} (h:o + ds.length≤l.length):(overL l o ds).length=l.length:=by
 unfold overL;rw [List.length_append,List.length_append,List.length_take,List.length_drop]
 omega
theorem overL_get {l ds:List Int} {o:Nat} (h:o + ds.length≤l.length) (p:Nat):(overL l o ds).getD p 0=if o≤p∧p < o + ds.length then ds.getD (p - o) 0 else l.getD p 0:=by
 unfold overL
 have h1:(l.take o).length=o:=by rw [List.length_take];omega
 by_cases c1:p < o
 ·rw [List.append_assoc,getD_append_l (by omega),getD_take c1,if_neg (by omega)]
 ·by_cases c2:p < o + ds.length
  ·rw [getD_append_l (by rw [List.length_append];omega),getD_append_r (by omega),h1,if_pos ⟨by omega,c2⟩]
  ·rw [getD_append_r (by rw [List.length_append];omega),getD_drop,List.length_append,h1,if_neg (by omega)]
   congr 1
   omega
theorem Cont.wrote {x:Nd} {bs:List Int} (h:Cont x bs) (hz:Z1 x) (h0:0≤x.size) {o:Nat} {ds:List Int} (hd:ds≠[]):Cont (wroteM x (rowsN x) o ds) (writeB bs o ds):=by
 have hl:0 < ds.length:=List.length_pos_iff.2 hd;have h1:=h.1;unfold writeB;rw [if_neg hd];obtain ⟨L,hL⟩:∃ L,L=bs ++ List.replicate (o + ds.length - bs.length) 0:=⟨_,rfl⟩
 have hLl:L.length=bs.length + (o + ds.length - bs.length):=by rw [hL,List.length_append,List.length_replicate]
 rw [←hL];refine ⟨?_,fun p hp => ?_⟩
 ·rw [overL_len (by omega),hLl]
  show _=(max x.size ((o:Int) + ds.length)).toNat
  omega
 ·rw [overL_get (by omega),byte_wrote]
  by_cases c:o≤p∧p < o + ds.length
  ·rw [if_pos c,if_pos c]
  ·rw [if_neg c,if_neg c,hL]
   by_cases c2:p < bs.length
   ·rw [getD_append_l c2,h.2 p c2]
   ·rw [getD_append_r (by omega),getD_zeros,hz.1 p (by omega)]
theorem rows_cut {x:Nd} {n:Int} (b:Nat):rowsN (cutN x n) b=if (b:Int)=n / 128∧x.blk (b:Int)≠none∧n % 128≠0 then cutL (rowsN x b) (n % 128).toNat else if n≤(b:Int) * 128 then Zs else rowsN x b:=by
 unfold cutN
 by_cases c:x.blk (n / 128)=none∨n % 128=0
 ·rw [if_pos c,if_neg (fun d=>by
   rcases c with c | c
   ·rw [←d.1] at c;exact d.2.1 c
   ·exact d.2.2 c)]
  have e:({ x with blk:=fun y=>if n≤y * 128 then none else x.blk y,size:=n }:Nd).blk (b:Int)=if n≤(b:Int) * 128 then none else x.blk (b:Int):=rfl
  by_cases c2:n≤(b:Int) * 128
  ·rw [if_pos c2]
   exact rows_none (e.trans (if_pos c2))
  ·rw [if_neg c2]
   exact rows_eq (e.trans (if_neg c2))
 ·rw [if_neg c]
  have e:({ x with blk:=fun y=>if y=n / 128 then some (Value.agg (SA (cutL (rowsN x (n / 128).toNat) (n % 128).toNat))) else if n≤y * 128 then none else x.blk y,size:=n }:Nd).blk (b:Int)=if (b:Int)=n / 128 then some (Value.agg (SA (cutL (rowsN x (n / 128).toNat) (n % 128).toNat))) else if n≤(b:Int) * 128 then none else x.blk (b:Int):=rfl
  by_cases c1:(b:Int)=n / 128
  ·have a1:x.blk (b:Int)≠none:=fun e=>c (.inl (by rw [←c1];exact e))
   have a2:n % 128≠0:=fun e=>c (.inr e)
   rw [if_pos ⟨c1,a1,a2⟩]
   have hb:(n / 128).toNat=b:=by omega
   refine rows_some ?_;rw [e,if_pos c1,hb]
  ·rw [if_neg (fun d=>c1 d.1)]
   rw [if_neg c1] at e
   by_cases c2:n≤(b:Int) * 128
   ·rw [if_pos c2]
    exact rows_none (e.trans (if_pos c2))
   ·rw [if_neg c2]
    exact rows_eq (e.trans (if_neg c2))
theorem byte_cut {x:Nd} {n:Int} (p:Nat):byteAt (rowsN (cutN x n)) p=if (p:Int) < n then byteAt (rowsN x) p else 0:=by
 unfold byteAt;rw [rows_cut]
 by_cases c:((p / 128:Nat):Int)=n / 128∧x.blk ((p / 128:Nat):Int)≠none∧n % 128≠0
 ·rw [if_pos c]
  unfold cutL
  have hl:((rowsN x (p / 128)).take (n % 128).toNat).length≤(n % 128).toNat:=by rw [List.length_take];omega
  by_cases c2:(p:Int) < n
  ·rw [if_pos c2]
   by_cases c3:p % 128 < ((rowsN x (p / 128)).take (n % 128).toNat).length
   ·rw [getD_append_l c3,getD_take (by omega)]
   ·rw [getD_append_r (by omega),getD_zeros]
    have:(rowsN x (p / 128)).length≤p % 128:=by
     rw [List.length_take] at c3
     omega
    rw [getD_out this]
  ·rw [if_neg c2,getD_append_r (by omega),getD_zeros]
 ·rw [if_neg c]
  by_cases c2:n≤((p / 128:Nat):Int) * 128
  ·rw [if_pos c2,if_neg (by omega),zs_at]
  ·rw [if_neg c2]
   by_cases c3:(p:Int) < n
   ·rw [if_pos c3]
   ·rw [if_neg c3]
    have e1:((p / 128:Nat):Int)=n / 128:=by omega
    have e2:n % 128≠0:=by omega
    have e3:x.blk ((p / 128:Nat):Int)=none:=Classical.byContradiction fun d=>c ⟨e1,d,e2⟩
    have e4:rowsN x (p / 128)=Zs:=by unfold rowsN;rw [e3]
    rw [e4,zs_at]
theorem Z1.cut {x:Nd} {n:Int} (h1:n≤23299):Z1 (cutN x n):=by
 refine ⟨fun p hp => ?_,by rw [(cut_facts x n).2.2.2.2.1];exact h1⟩;rw [(cut_facts x n).2.2.2.2.1] at hp;rw [byte_cut,if_neg (by omega)]
def truncB (bs:List Int) (n:Nat):List Int:=(bs ++ List.replicate (n - bs.length) 0).take n
theorem Cont.cut {x:Nd} {bs:List Int} (h:Cont x bs) (hz:Z1 x) (hs:0≤x.size) {n:Int}:Cont (cutN x n) (truncB bs n.toNat):=by
 have h1:=h.1;unfold truncB;refine ⟨?_,fun p hp => ?_⟩
 ·rw [List.length_take,List.length_append,List.length_replicate,(cut_facts x n).2.2.2.2.1]
  omega
 ·rw [List.length_take] at hp
  rw [getD_take (by omega),byte_cut,if_pos (by omega)]
  by_cases c:p < bs.length
  ·rw [getD_append_l c,h.2 p c]
  ·rw [getD_append_r (by omega),getD_zeros,hz.1 p (by omega)]
theorem Cont.new (kind made:Int):Cont (newNd kind made) []:=⟨rfl,fun _ hp=>absurd hp (Nat.not_lt_zero _)⟩
theorem Z1.new (kind made:Int):Z1 (newNd kind made):=by
 refine ⟨fun p _ => ?_,by show (0:Int)≤_;omega⟩;unfold byteAt;have:rowsN (newNd kind made) (p / 128)=Zs:=rfl;rw [this,zs_at]
theorem Cont.read {x:Nd} {bs:List Int} (h:Cont x bs) (hz:Z1 x):datA (readOp x 0 131072)=bs∧codeA (readOp x 0 131072)=0:=by
 have h1:=h.1;have h2:=hz.2;unfold readOp;rw [if_neg (by omega)]
 by_cases c:x.size≤0
 ·rw [if_pos c]
  have:bs=[]:=List.length_eq_zero_iff.1 (by omega);rw [this]
  exact ⟨rfl,rfl⟩
 ·rw [if_neg c]
  refine ⟨?_,rfl⟩
  show BY (rowsN x) (0:Int).toNat (min 131072 (x.size - 0)).toNat=bs
  have e:(min 131072 (x.size - 0)).toNat=bs.length:=by omega
  rw [e]
  refine List.ext_getElem? fun p => ?_
  have eb:(BY (rowsN x) (0:Int).toNat bs.length)[p]? = ((List.range bs.length)[p]?).map fun k=>byteAt (rowsN x) (0 + k):=List.getElem?_map
  rw [eb]
  by_cases c2:p < bs.length
  ·have:=h.2 p c2
   rw [List.getD_eq_getElem?_getD,List.getElem?_eq_getElem c2] at this;rw [List.getElem?_range c2,List.getElem?_eq_getElem c2]
   show some (byteAt (rowsN x) (0 + p))=_
   rw [Nat.zero_add,←this]
   rfl
  ·rw [List.getElem?_eq_none (by rw [List.length_range];omega),List.getElem?_eq_none (by omega)]
   rfl
theorem AllZ.put {s:PSt} {i:Int} {x:Nd} (h:AllZ s) (hx:Z1 x):AllZ (s.put i x):=fun j y hy=>by
 by_cases e:j=i
 ·rw [e,PSt.put_at] at hy;cases hy;exact hx
 ·rw [PSt.put_ne _ _ e] at hy;exact h j y hy
end Go.Proofs.YtmgfilacepnjlaaGreatDoor
