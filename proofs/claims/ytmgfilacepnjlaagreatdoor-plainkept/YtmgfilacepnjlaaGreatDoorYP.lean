/-
 PlainKept's model and what is done, to the pure.
-/
import Derived.Test.YtmgfilacepnjlaaGreatDoorYP0
import Derived.Test.YtmgfilacepnjlaaGreatDoorYH
import Derived.Test.YtmgfilacepnjlaaGreatDoorYK
namespace Go.Proofs.YtmgfilacepnjlaaGreatDoor
open Go.RowKit Go.PlainAid

theorem over_take {α:Type} {cur lm cs:List α} {o n:Nat} (h:cur.take n=lm) (hn:lm.length=n) (hf:o + cs.length≤n):(cur.take o ++ cs ++ cur.drop (o + cs.length)).take n=lm.take o ++ cs ++ lm.drop (o + cs.length)∧(cur.take o ++ cs ++ cur.drop (o + cs.length)).length=cur.length:=by
 have e:cur=lm ++ cur.drop n:=by rw [←h];exact (List.take_append_drop n cur).symm
 have hc:n≤cur.length:=by
  have:=congrArg List.length e;rw [List.length_append] at this
  omega
 constructor
 ·obtain ⟨r,hr⟩:∃ r,r=cur.drop n:=⟨_,rfl⟩
  rw [←hr] at e;have e1:(lm ++ r).take o=lm.take o:=List.take_append_of_le_length (by omega);have e2:(lm ++ r).drop (o + cs.length)=lm.drop (o + cs.length) ++ r:=List.drop_append_of_le_length (by omega);rw [e,e1,e2,←List.append_assoc];refine List.take_left' ?_;rw [List.length_append,List.length_append,List.length_take,List.length_drop]
  omega
 ·rw [List.length_append,List.length_append,List.length_take,List.length_drop]
  omega
set_option maxHeartbeats 4000000 in
set_option maxRecDepth 100000 in
theorem mo_done7 {B:Nat} {c:MC} {m:Mo} {ls:List ByteArray} {p tt:ByteArray} {off len made pick:Int} {da:Option Addr} {data:List Int} {dc:Nat} {i:Nat} {t:Th} (w:World) (h:IsMo w B c m) (hk:MoOk m) (hl:LL ls) (hp:p=TP ls) (hi:m.things[i]? = some t) (hix:thK m.things (atL m.paths ls) 0=(i:Int)) (ho:0≤off∧off≤1000000) (htb:t.bytes.length≤1000000) (hdl:data.length≤1000000) (hdat:BytesAt w da data):Calls Tryz.prog 11 #[.pointer (some ⟨c.g,0,none⟩),.agg #[.int .i64 7,.string p,.string tt,.int .i64 off,.int .i64 len,.slice da data.length dc,.int .i64 made,.int .i64 pick]] w fun e w'=>e=.returned (.tuple #[])∧(∃ c',c'.g=c.g∧IsMo w' B c' { m with things:=m.things.set i { t with bytes:=writeB t.bytes off.toNat data } })∧MCh B w w':=by
 obtain ⟨off,rfl⟩:∃ o:Nat,off=(o:Int):=⟨off.toNat,by omega⟩;obtain ⟨dl,hdle⟩:∃ y,y=data.length:=⟨_,rfl⟩;rw [←hdle] at hdl ⊢;have HDle:=hid hdle;have h1:IsMo (w.alloc (.cells #[.int .i64 7,.string p,.string tt,.int .i64 off,.int .i64 len,.slice da dl dc,.int .i64 made,.int .i64 pick] 34)) B c m:=h.call (Chg.alloc w _ No);have hA:=mo_at _ h1 hk hl;have hT:=mo_thing (id:=atL m.paths ls) _ h1 hk;rw [←hp] at hA;rw [hix] at hT;obtain ⟨ia,hia⟩:∃ y,y=atL m.paths ls:=⟨_,rfl⟩;rw [←hia] at hA hT;have hbx0:(w.alloc (.cells #[.int .i64 7,.string p,.string tt,.int .i64 off,.int .i64 len,.slice da dl dc,.int .i64 made,.int .i64 pick] 34)).heap[w.heap.size]? = some (.cells #[.int .i64 7,.string p,.string tt,.int .i64 off,.int .i64 len,.slice da dl dc,.int .i64 made,.int .i64 pick] 34 (0,0)):=heap_alloc_new w _;have HMA0:Hid (MCh B w (w.alloc (.cells #[.int .i64 7,.string p,.string tt,.int .i64 off,.int .i64 len,.slice da dl dc,.int .i64 made,.int .i64 pick] 34))):=hid (MCh.of (Chg.alloc w _ No));obtain ⟨ga,cpt,bb,g1,hga,hrow,hbv,hbr,_,_,_,p3⟩:=h1.thing hi;have q0:=h1.cells.1;rw [g1] at q0
 have n1:(m.things.length:Int)≤2199023255552:=by have:=hk.nt;omega
 have i1:i < m.things.length:=(List.getElem?_eq_some_iff.1 hi).1
 have i2:(i:Int) < (m.things.length:Int):=by omega
 have i0:(0:Int)≤(i:Int):=by omega
 have HGa:=hid hga;have HBr:=hid hbr;have HBv:=hid hbv;have HG1:=hid g1;have HRow:=hid hrow;have HIi:=hid hi;have H1:=hid h1;have HTb:=hid htb;have HDl:=hid hdl;have HDat:Hid (BytesAt (w.alloc (.cells #[.int .i64 7,.string p,.string tt,.int .i64 off,.int .i64 len,.slice da dl dc,.int .i64 made,.int .i64 pick] 34)) da data):=hid (hdat.call (Chg.alloc w _ No));have HBx:=hid hbx0;obtain ⟨bl,hbl⟩:∃ y,y=t.bytes.length:=⟨_,rfl⟩;have HBl:=hid hbl;rw [←hbl] at p3
 have bl1:(bl:Int)≤1000000:=by omega
 obtain ⟨o1,o2⟩:=ho;clear h h1 hk hl hp hi hix htb hdl hdat hdle hia hbx0 hrow hbv hbr g1 hbl hga
 go_enter Tryz.func11,Tryz.ntmps11
 go_upto_region 16 with (first
  | (go_at_call_of 28 (Value.string p);go_must (refine hA.mono ?_;rintro e w' ⟨rfl,hw⟩;subst hw))
  | (go_at_call 29;go_must (refine hT.mono ?_;rintro e w' ⟨rfl,hw⟩;subst hw))
  | fail)
 clear hA hT;obtain ⟨bx,hbx⟩:∃ y,y=w.heap.size:=⟨_,rfl⟩;rw [←hbx] at HBx ⊢;obtain ⟨W2,hW2⟩:∃ y,y=(w.alloc (.cells #[.int .i64 7,.string p,.string tt,.int .i64 off,.int .i64 len,.slice da dl dc,.int .i64 made,.int .i64 pick] 34)):=⟨_,rfl⟩;rw [←hW2] at H1 HMA0 HBx HBr HRow HDat q0 p3 ⊢;clear hbx hW2;have hAl:Chg W2 (W2.alloc (.cells #[] 5)) No:=Chg.alloc _ _ _;have q0b:=(H1.out.call hAl).cells.1;rw [HG1.out] at q0b
 have p3b:(W2.alloc (.cells #[] 5)).cell? ⟨ga,i * 4 + 3,none⟩=some (.slice bb.1 bl bb.2):=by
  obtain ⟨A,hA⟩:=HRow.out;rw [cell_of_row _ _ _ _ _ _ (hAl.keep hA (fun e=>e)),←cell_of_row _ _ _ _ _ _ hA]
  exact p3
 have hBo:BOw (W2.alloc (.cells #[] 5)) W2.heap.size (.slice (some ⟨W2.heap.size,0,none⟩) 0 0) []:=⟨rfl,.inr ⟨W2.heap.size,0,#[],rfl,Nat.le_refl _,heap_alloc_new _ _,Nat.le_refl _,by decide,rfl,rfl⟩⟩;have hBa:=(HBr.out.1).call hAl;have hSz:=hAl.size;have HSz1:Hid (([]:List Int).length + t.bytes.length≤1000000000000):=hid (by have:=HTb.out;simp only [List.length_nil];omega)
 go_upto_region 17 with (first
  | (at_builtin;go_must (refine wp_appB rfl _ _ rfl W2.heap.size (.slice (some ⟨W2.heap.size,0,none⟩) 0 0) [] t.bytes bb.1 bb.2 rfl (by rw [←HBl.out];rfl) hBo hBa HSz1.out hSz ?_;intro v0 W3 hOw hCh;have HOw:=hid hOw;have HCh:=hid hCh;clear hOw hCh))
  | fail)
 have hlt3:∀ k,k < W2.heap.size→(Value.slice (some ⟨W2.heap.size,0,none⟩) 0 0).ownBlock=some k→False:=fun k hk e=>by
  have e:W2.heap.size=k:=by simpa [Value.ownBlock] using e
  omega
 have HC3:Hid (Chg W2 W3 No):=hid (hAl.trans HCh.out (fun _ _ e=>e) (fun k hk e=>hlt3 k hk e));clear hlt3;clear q0 q0b p3 p3b hBo hBa hSz hAl
 go_loopw [5] (fun x7 wr=>∃ (v:Value) (k:Nat),v=x7∧k≤off + dl - t.bytes.length∧(dl=0→k=0)∧Hid (BOw wr W2.heap.size v (t.bytes ++ List.replicate k 0)∧Chg W2 wr No)) (fun x7 _=>(off + dl) - (match x7 with | .slice _ n _=>n | _=>0))
 case atStart=>exact ⟨v0,0,rfl,Nat.zero_le _,fun _=>rfl,hid ⟨by have h3:=HOw.out;simpa using h3,HC3.out⟩⟩
 case round =>
  obtain ⟨v,k,rfl,hk,hk0,HA⟩:=hrel;obtain ⟨l,hl⟩:∃ y,y=t.bytes ++ List.replicate k 0:=⟨_,rfl⟩;have HL:=hid hl;rw [←hl] at HA;obtain ⟨av,cv,hv⟩:=row_sh HA.out.1;subst hv;obtain ⟨n,hn⟩:∃ y,y=l.length:=⟨_,rfl⟩;have HN:=hid hn;rw [←hn];rw [←hn] at HA
  have hnl:n=t.bytes.length + k:=by rw [hn,hl,List.length_append,List.length_replicate]
  have n2:(n:Int)≤3000000:=by have:=HTb.out;have:=HDl.out;omega
  have q3:wr.cell? ⟨bx,3,none⟩=some (.int .i64 (off:Int)):=(cell_of_row _ _ _ _ _ _ (HA.out.2.keep HBx.out (fun e=>e))).trans rfl;have HNl:=hid hnl;clear hl hn hnl;have q5:wr.cell? ⟨bx,5,none⟩=some (.slice da dl dc):=(cell_of_row _ _ _ _ _ _ (HA.out.2.keep HBx.out (fun e=>e))).trans rfl;have d2:=HDl.out
  have d4:(dl:Int)≤1000000:=by omega
  rcases Nat.eq_zero_or_pos dl with d0 | d0
  ·have HD0:=hid d0
   have k0:=hk0 d0
   have d5:(dl:Int)=0:=by omega
   have d6 : ¬ (0:Int) < (dl:Int):=by omega
   have HLt:Hid (l=t.bytes):=hid (by rw [HL.out,k0];exact List.append_nil _)
   have HWr:Hid (writeB t.bytes off data=l):=hid (by
    have e:data=[]:=List.length_eq_zero_iff.1 (by rw [←HDle.out];exact HD0.out);rw [HLt.out,e]
    rfl)
   have HWl:Hid (l.length=n):=hid HN.out.symm
   have HBrow:Hid (BRow wr (av,cv) l):=hid (by
    obtain ⟨at1,cp1,hsh,hBy⟩:=BOw.one HA.out.1;rw [←HN.out] at hsh
    cases hsh
    refine ⟨hBy,?_,fun g2 o2 e2 => ?_⟩
    ·rcases HA.out.1.2 with ⟨e1,e2⟩ | ⟨gb,cap,cur,e1,hb1,hg1,hcp,_⟩
     ·rw [e2];exact Nat.zero_le _
     ·cases e1;exact hcp
    ·rcases HA.out.1.2 with ⟨e1,_⟩ | ⟨gb,cap,cur,e1,hb1,hg1,hcp,_⟩
     ·cases e1;cases e2
     ·cases e1;cases e2;exact ⟨cur,hg1⟩)
   have hA9:∃ A,wr.heap[ga]? = some (.cells A 74 (0,0)):=by
    obtain ⟨A,hA⟩:=HRow.out
    exact ⟨A,HA.out.2.keep hA (fun e=>e)⟩
   obtain ⟨A9,hA9⟩:=hA9;have hI9:=H1.out.call HA.out.2;have q9:=hI9.cells.1;rw [HG1.out] at q9
   have hcc:wr.cell? ⟨ga,i * 4 + 3,none⟩=some (.slice bb.1 t.bytes.length bb.2):=by
    obtain ⟨g9,cp9,b9,e9,_,_,e8,_,_,_,_,e7⟩:=hI9.thing HIi.out;rw [HG1.out] at e9
    cases e9
    rw [HBv.out] at e8
    cases e8
    exact e7
   have hff:wr.frozen? ⟨ga,i * 4 + 3,none⟩=false:=frozen_of_row _ _ _ _ _ hA9;have hF:=hI9.setB HIi.out (bs:=l) (a:=av) (q:=cv) HG1.out hA9 HBrow.out;rw [HWl.out,←HWr.out] at hF;have hM:MCh B w (wr.setCell ⟨ga,i * 4 + 3,none⟩ (.slice (av) n cv)):=(HMA0.out.trans (MCh.of HA.out.2)).trans (MCh.row HGa.out hA9 (.inr (.inl rfl)) Chg.setCell);have HF9:=hid hF;have HM9:=hid hM;clear hF hM hA9 hI9
   by_cases hno:(n:Int) < (off:Int) + (dl:Int)
   ·go_wp2_with fail
    go_end0
    exact ⟨rfl,⟨⟨c.g,c.tv,c.pv,c.bv.set i (av,cv)⟩,rfl,by first | exact HF9.out | (rw [Int.toNat_natCast];exact HF9.out)⟩,HM9.out⟩
   ·go_wp2_with fail
    go_end0
    exact ⟨rfl,⟨⟨c.g,c.tv,c.pv,c.bv.set i (av,cv)⟩,rfl,by first | exact HF9.out | (rw [Int.toNat_natCast];exact HF9.out)⟩,HM9.out⟩
  ·have d3:(0:Int) < (dl:Int):=by omega
   obtain ⟨sb,so,e0,hsb,hsc⟩:∃ b o,da=some ⟨b,o,none⟩∧b < W2.heap.size∧∀ j,j < data.length→W2.cell? ⟨b,o + j,none⟩=some (.int .u8 (data.getD j 0)):=by
    rcases HDat.out with e | e
    ·exfalso
     have:=HDle.out;rw [e] at this
     simp at this
     omega
    ·exact e
   subst e0;have HSb:=hid hsb;have HSc:=hid hsc;clear hsb hsc
   by_cases hno:(n:Int) < (off:Int) + (dl:Int)
   ·have hBo:BOw (wr.alloc (.cells #[.int .u8 0] 5)) W2.heap.size (.slice av n cv) l:=HA.out.1.call (Chg.alloc _ _ No)
    have hz0:(wr.alloc (.cells #[.int .u8 0] 5)).cell? ⟨wr.heap.size,0,none⟩=some (.int .u8 0):=(cell_of_row _ _ _ _ _ _ (heap_alloc_new _ _)).trans rfl;have HLn:Hid (l.length≤1000000000000):=hid (by rw [←HN.out];omega);have hBz:W2.heap.size≤(wr.alloc (.cells #[.int .u8 0] 5)).heap.size:=Nat.le_trans HA.out.2.size (Chg.alloc wr (.cells #[.int .u8 0] 5) No).size
    go_wp2_with (first
     | (at_builtin;go_must (refine wp_app8 rfl _ _ rfl W2.heap.size wr.heap.size 1 (.slice av n cv) l 0 rfl rfl hBo hz0 HLn.out hBz ?_;intro v1 W4 hOw hCh _;have HO1:=hid hOw;have HC1:=hid hCh;clear hOw hCh))
     | fail)
    obtain ⟨a1,c1,hv1⟩:=row_sh HO1.out;subst hv1
    have hl1:(l ++ [0]).length=n + 1:=by rw [List.length_append,←HN.out];rfl
    refine ⟨⟨_,k + 1,rfl,?_,(fun h0=>absurd h0 (by omega)),hid ⟨?_,?_⟩⟩,?_⟩
    ·have:=HNl.out
     omega
    ·rw [List.replicate_succ',←List.append_assoc,←HL.out]
     exact HO1.out
    ·refine (HA.out.2.trans (Chg.alloc wr _ No) (fun _ _ e=>e) (fun _ _ e=>e)).trans HC1.out (fun _ _ e=>e) (fun k hk hv => ?_)
     rcases HA.out.1.2 with ⟨e1,_⟩ | ⟨g1,c1,c2,e1,hb1,_⟩
     ·rw [e1] at hv;cases hv
     ·rw [e1] at hv
      have:g1=k:=by simpa [Value.ownBlock] using hv
      omega
    ·show off + dl - (l ++ [0]).length < off + dl - n
     omega
   ·obtain ⟨gb,cur,e1,hgb,hcur,hcp,hmx,hsz,htk⟩:∃ gb cur,av=some ⟨gb,0,none⟩∧W2.heap.size≤gb∧wr.heap[gb]? = some (.cells cur 5 (0,0))∧l.length≤cv∧cv≤maxLen∧cur.size=cv * 1∧cur.toList.take (l.length * 1)=l.map (Value.int .u8):=by
     rcases HA.out.1.2 with ⟨_,e2⟩ | ⟨gb,cap,cur,e1,h1,h2,h3,h4,h5,h6⟩
     ·rw [←HN.out] at e2;omega
     ·cases e1;exact ⟨gb,cur,rfl,h1,h2,h3,h4,h5,h6⟩
    subst e1
    have hge:off + dl≤n:=by omega
    have hcn:n≤cv:=by rw [←HN.out] at hcp;exact hcp
    have HLw:Hid (l=t.bytes ++ List.replicate (off + data.length - t.bytes.length) 0):=hid (by
     have h3:=HNl.out;rw [HL.out,←HDle.out]
     congr 2
     omega)
    obtain ⟨wl,hwl⟩:∃ y,y=l.take off ++ data ++ l.drop (off + dl):=⟨_,rfl⟩
    have HWr:Hid (writeB t.bytes off data=wl):=hid (by
     have hne : ¬ data=[]:=fun e=>by
      have:=HDle.out;rw [e] at this
      simp at this
      omega
     unfold writeB;rw [if_neg hne,←HLw.out,hwl,HDle.out]
     rfl)
    have HWl:Hid (wl.length=n):=hid (by
     rw [hwl,List.length_append,List.length_append,List.length_take,List.length_drop,←HN.out,←HDle.out]
     omega)
    have HWd:=hid hwl;have HTk:=hid htk;have HSz:=hid hsz;have HGb:=hid hgb;have HMx:=hid hmx;have HCp:=hid hcp;have HHno:=hid hno
    have ho1:off≤n:=by omega
    have ho2 : ¬ cv=off:=by omega
    clear hwl htk hmx hcp
    go_upto_region 20 with fail
    have hdn:Chg wr wr.drew No:=(Chg.refl _ _).drew;have hd:Chg wr wr.drew (· = gb):=(Chg.refl _ _).drew;have HCd:Hid (Chg W2 wr.drew No):=hid (HA.out.2.tr hdn);have hbw:wr.heap[bx]? = some (.cells #[.int .i64 7,.string p,.string tt,.int .i64 off,.int .i64 len,.slice (some ⟨sb,so,none⟩) dl dc,.int .i64 made,.int .i64 pick] 34 (0,0)):=HA.out.2.keep HBx.out (fun e=>e)
    have hne : ¬ bx=gb:=fun e=>by
     rw [e,hcur] at hbw
     injection hbw with h1
     injection h1 with h2 h3
     exact absurd h3 (by decide)
    have K3:Hid (∀ W,Chg wr W (· = gb)→W.cell? ⟨bx,3,none⟩=some (.int .i64 (off:Int))):=hid (fun W hW=>(cell_of_row _ _ _ _ _ _ (hW.keep hbw hne)).trans rfl);have K5:Hid (∀ W,Chg wr W (· = gb)→W.cell? ⟨bx,5,none⟩=some (.slice (some ⟨sb,so,none⟩) dl dc)):=hid (fun W hW=>(cell_of_row _ _ _ _ _ _ (hW.keep hbw hne)).trans rfl);have hG:wr.drew.heap[gb]? = some (.cells cur 5 (0,0)):=hdn.keep hcur (fun e=>e)
    have HSr:Hid (∀ (j:Nat) (v:Value),(data.map (Value.int .u8))[j]? = some v→wr.drew.cell? ((⟨sb,so,none⟩:Addr).add j)=some v):=hid (fun j v hj=>by
     have hlt:j < data.length:=by
      rcases Nat.lt_or_ge j data.length with k | k
      ·exact k
      ·rw [List.getElem?_eq_none (by simpa using k)] at hj;cases hj
     have h1:=HSc.out j hlt;rw [addr_add];unfold World.cell? at h1 ⊢;rw [HCd.out.block sb HSb.out (fun e=>e),h1]
     simp [hlt] at hj
     simp [hlt,hj])
    clear hbw hne hcur;refine wp_region_noPanic ?_;refine wp_region_held_drew (S:=fun W=>Chg wr W (· = gb)) (by kernel_rfl) hd (fun hH => ?_);refine tV 0 129 (.slice (some ⟨gb,0,none⟩) n cv) rfl (by kernel_rfl) rfl (by rfl) hH (fun _ hw'=>rfl) ?_;simp only [sS];refine tV 1 130 (.pointer (some ⟨bx,3,none⟩)) rfl (by kernel_rfl) rfl (by rfl) hH (fun _ hw'=>by go_simp) ?_;simp only [sS];refine tV 2 131 (.int .i64 (off:Int)) rfl (by kernel_rfl) rfl (by rfl) hH (fun _ hw'=>by have hc:=K3.out _ hw';go_simp) ?_;simp only [sS];refine tV 3 132 (.slice (some ⟨gb,off,none⟩) (n - off) (cv - off)) rfl (by kernel_rfl) rfl (by rfl) hH (fun _ hw'=>by go_simp) ?_;simp only [sS];refine tV 4 133 (.pointer (some ⟨bx,5,none⟩)) rfl (by kernel_rfl) rfl (by rfl) hH (fun _ hw'=>by go_simp) ?_;simp only [sS];refine tV 5 134 (.slice (some ⟨sb,so,none⟩) dl dc) rfl (by kernel_rfl) rfl (by rfl) hH (fun _ hw'=>by have hc:=K5.out _ hw';go_simp) ?_;simp only [sS];refine step1 6 (by kernel_rfl) ?_;refine stCopy 6 135 (.tmp 132) (.tmp 134) gb off (n - off) (cv - off) ⟨sb,so,none⟩ dl dc cur 5 (data.map (Value.int .u8)) rfl rfl (by rfl) rfl rfl rfl hG (by rw [List.length_map,←HDle.out];exact (Nat.min_eq_left (by omega)).symm) HSr.out (by rw [List.length_map,←HDle.out,HSz.out];omega) (by intro v hv;obtain ⟨y,_,rfl⟩:=List.mem_map.1 hv;rfl) ?_
    intro w4 hw4
    refine ⟨hd.trans (kt_new hw4) (fun _ _ e=>e) (fun _ _ e=>e),?_⟩;refine wpAnyH_done (by kernel_rfl) ?_ _;refine NoPanic.normal ?_;have HC4:Hid (Chg W2 w4 No):=hid (HCd.out.trans (kt_new hw4) (fun _ _ e=>e) (fun j hj e=>by have:=HGb.out;omega));have hover:=over_take (cur:=cur.toList) (cs:=data.map (Value.int .u8)) (o:=off) (n:=n) (lm:=l.map (Value.int .u8)) (by have h5:=HTk.out;rw [Nat.mul_one,←HN.out] at h5;exact h5) (by rw [List.length_map,←HN.out]) (by rw [List.length_map,←HDle.out];exact hge)
    have hmap:(l.map (Value.int .u8)).take off ++ data.map (Value.int .u8) ++ (l.map (Value.int .u8)).drop (off + (data.map (Value.int .u8)).length)=wl.map (Value.int .u8):=by
     rw [HWd.out,List.map_append,List.map_append,List.map_take,List.map_drop,List.length_map,←HDle.out]
    have HBO:Hid (BOw w4 W2.heap.size (.slice (some ⟨gb,0,none⟩) n cv) wl):=hid ⟨by rw [List.length_map,Nat.mul_one],.inr ⟨gb,cv,_,by rw [HWl.out],HGb.out,hw4.here,by rw [HWl.out];exact hcn,HMx.out,by
     rw [List.size_toArray,hover.2,Array.length_toList]
     exact HSz.out,by
     rw [HWl.out,Nat.mul_one]
     exact hover.1.trans hmap⟩⟩
    have HBrow:Hid (BRow w4 (some ⟨gb,0,none⟩,cv) wl):=hid (by
     obtain ⟨at1,cp1,hsh,hBy⟩:=BOw.one HBO.out;rw [HWl.out] at hsh
     cases hsh
     refine ⟨hBy,by rw [HWl.out];exact hcn,fun g2 o2 e2 => ?_⟩
     cases e2
     exact ⟨_,hw4.here⟩)
    clear hH hw4 hover hmap hG hd hdn
    have hA9:∃ A,w4.heap[ga]? = some (.cells A 74 (0,0)):=by
     obtain ⟨A,hA⟩:=HRow.out
     exact ⟨A,HC4.out.keep hA (fun e=>e)⟩
    obtain ⟨A9,hA9⟩:=hA9;have hI9:=H1.out.call HC4.out;have q9:=hI9.cells.1;rw [HG1.out] at q9
    have hcc:w4.cell? ⟨ga,i * 4 + 3,none⟩=some (.slice bb.1 t.bytes.length bb.2):=by
     obtain ⟨g9,cp9,b9,e9,_,_,e8,_,_,_,_,e7⟩:=hI9.thing HIi.out;rw [HG1.out] at e9
     cases e9
     rw [HBv.out] at e8
     cases e8
     exact e7
    have hff:w4.frozen? ⟨ga,i * 4 + 3,none⟩=false:=frozen_of_row _ _ _ _ _ hA9;have hF:=hI9.setB HIi.out (bs:=wl) (a:=some ⟨gb,0,none⟩) (q:=cv) HG1.out hA9 HBrow.out;rw [HWl.out,←HWr.out] at hF;have hM:MCh B w (w4.setCell ⟨ga,i * 4 + 3,none⟩ (.slice (some ⟨gb,0,none⟩) n cv)):=(HMA0.out.trans (MCh.of HC4.out)).trans (MCh.row HGa.out hA9 (.inr (.inl rfl)) Chg.setCell);have HF9:=hid hF;have HM9:=hid hM;clear hF hM hA9 hI9
    go_wp2_with fail
    go_end0
    exact ⟨rfl,⟨⟨c.g,c.tv,c.pv,c.bv.set i (some ⟨gb,0,none⟩,cv)⟩,rfl,by first | exact HF9.out | (rw [Int.toNat_natCast];exact HF9.out)⟩,HM9.out⟩
end Go.Proofs.YtmgfilacepnjlaaGreatDoor

namespace Go.Proofs.YtmgfilacepnjlaaGreatDoor
open Go.RowKit Go.PlainAid

set_option maxHeartbeats 4000000 in
set_option maxRecDepth 100000 in
theorem mo_done8 {B:Nat} {c:MC} {m:Mo} {ls:List ByteArray} {p tt:ByteArray} {off len made pick:Int} {da:Option Addr} {dl dc:Nat} {i:Nat} {t:Th} (w:World) (h:IsMo w B c m) (hk:MoOk m) (hl:LL ls) (hp:p=TP ls) (hi:m.things[i]? = some t) (hix:thK m.things (atL m.paths ls) 0=(i:Int)) (ho:0≤off∧off≤1000000) (htb:t.bytes.length≤1000000):Calls Tryz.prog 11 #[.pointer (some ⟨c.g,0,none⟩),.agg #[.int .i64 8,.string p,.string tt,.int .i64 off,.int .i64 len,.slice da dl dc,.int .i64 made,.int .i64 pick]] w fun e w'=>e=.returned (.tuple #[])∧(∃ c',c'.g=c.g∧IsMo w' B c' { m with things:=m.things.set i { t with bytes:=truncB t.bytes off.toNat } })∧MCh B w w':=by
 have h1:IsMo (w.alloc (.cells #[.int .i64 8,.string p,.string tt,.int .i64 off,.int .i64 len,.slice da dl dc,.int .i64 made,.int .i64 pick] 34)) B c m:=h.call (Chg.alloc w _ No);have hA:=mo_at _ h1 hk hl;have hT:=mo_thing (id:=atL m.paths ls) _ h1 hk;rw [←hp] at hA;rw [hix] at hT;obtain ⟨ia,hia⟩:∃ y,y=atL m.paths ls:=⟨_,rfl⟩;rw [←hia] at hA hT;have hbx0:(w.alloc (.cells #[.int .i64 8,.string p,.string tt,.int .i64 off,.int .i64 len,.slice da dl dc,.int .i64 made,.int .i64 pick] 34)).heap[w.heap.size]? = some (.cells #[.int .i64 8,.string p,.string tt,.int .i64 off,.int .i64 len,.slice da dl dc,.int .i64 made,.int .i64 pick] 34 (0,0)):=heap_alloc_new w _;have HMA0:Hid (MCh B w (w.alloc (.cells #[.int .i64 8,.string p,.string tt,.int .i64 off,.int .i64 len,.slice da dl dc,.int .i64 made,.int .i64 pick] 34))):=hid (MCh.of (Chg.alloc w _ No));obtain ⟨ga,cpt,bb,g1,hga,hrow,hbv,hbr,_,_,_,p3⟩:=h1.thing hi;have q0:=h1.cells.1;rw [g1] at q0
 have n1:(m.things.length:Int)≤2199023255552:=by have:=hk.nt;omega
 have i1:i < m.things.length:=(List.getElem?_eq_some_iff.1 hi).1
 have i2:(i:Int) < (m.things.length:Int):=by omega
 have i0:(0:Int)≤(i:Int):=by omega
 have HGa:=hid hga;have HBr:=hid hbr;have HBv:=hid hbv;have HG1:=hid g1;have HRow:=hid hrow;have HIi:=hid hi;have H1:=hid h1;have HTb:=hid htb;have HBx:=hid hbx0;obtain ⟨bl,hbl⟩:∃ y,y=t.bytes.length:=⟨_,rfl⟩;have HBl:=hid hbl;rw [←hbl] at p3
 have bl1:(bl:Int)≤1000000:=by omega
 obtain ⟨o1,o2⟩:=ho;clear h h1 hk hl hp hi hix htb hia hbx0 hrow hbv hbr g1 hbl hga
 go_enter Tryz.func11,Tryz.ntmps11
 go_upto_region 24 with (first
  | (go_at_call_of 28 (Value.string p);go_must (refine hA.mono ?_;rintro e w' ⟨rfl,hw⟩;subst hw))
  | (go_at_call 29;go_must (refine hT.mono ?_;rintro e w' ⟨rfl,hw⟩;subst hw))
  | fail)
 clear hA hT;obtain ⟨bx,hbx⟩:∃ y,y=w.heap.size:=⟨_,rfl⟩;rw [←hbx] at HBx ⊢;obtain ⟨W2,hW2⟩:∃ y,y=(w.alloc (.cells #[.int .i64 8,.string p,.string tt,.int .i64 off,.int .i64 len,.slice da dl dc,.int .i64 made,.int .i64 pick] 34)):=⟨_,rfl⟩;rw [←hW2] at H1 HMA0 HBx HBr HRow q0 p3 ⊢;clear hbx hW2;have hAl:Chg W2 (W2.alloc (.cells #[] 5)) No:=Chg.alloc _ _ _;have q0b:=(H1.out.call hAl).cells.1;rw [HG1.out] at q0b
 have p3b:(W2.alloc (.cells #[] 5)).cell? ⟨ga,i * 4 + 3,none⟩=some (.slice bb.1 bl bb.2):=by
  obtain ⟨A,hA⟩:=HRow.out;rw [cell_of_row _ _ _ _ _ _ (hAl.keep hA (fun e=>e)),←cell_of_row _ _ _ _ _ _ hA]
  exact p3
 have hBo:BOw (W2.alloc (.cells #[] 5)) W2.heap.size (.slice (some ⟨W2.heap.size,0,none⟩) 0 0) []:=⟨rfl,.inr ⟨W2.heap.size,0,#[],rfl,Nat.le_refl _,heap_alloc_new _ _,Nat.le_refl _,by decide,rfl,rfl⟩⟩;have hBa:=(HBr.out.1).call hAl;have hSz:=hAl.size;have HSz1:Hid (([]:List Int).length + t.bytes.length≤1000000000000):=hid (by have:=HTb.out;simp only [List.length_nil];omega)
 go_upto_region 25 with (first
  | (at_builtin;go_must (refine wp_appB rfl _ _ rfl W2.heap.size (.slice (some ⟨W2.heap.size,0,none⟩) 0 0) [] t.bytes bb.1 bb.2 rfl (by rw [←HBl.out];rfl) hBo hBa HSz1.out hSz ?_;intro v0 W3 hOw hCh;have HOw:=hid hOw;have HCh:=hid hCh;clear hOw hCh))
  | fail)
 have hlt3:∀ k,k < W2.heap.size→(Value.slice (some ⟨W2.heap.size,0,none⟩) 0 0).ownBlock=some k→False:=fun k hk e=>by
  have e:W2.heap.size=k:=by simpa [Value.ownBlock] using e
  omega
 have HC3:Hid (Chg W2 W3 No):=hid (hAl.trans HCh.out (fun _ _ e=>e) (fun k hk e=>hlt3 k hk e));clear hlt3;clear q0 q0b p3 p3b hBo hBa hSz hAl
 go_loopw [7] (fun x7 wr=>∃ (v:Value) (k:Nat),v=x7∧k≤1000000∧Hid (BOw wr W2.heap.size v (t.bytes ++ List.replicate k 0)∧Chg W2 wr No)) (fun x7 _=>off.toNat - (match x7 with | .slice _ n _=>n | _=>0))
 case atStart=>exact ⟨v0,0,rfl,by omega,hid ⟨by have h3:=HOw.out;simpa using h3,HC3.out⟩⟩
 case round =>
  obtain ⟨v,k,rfl,hk,HA⟩:=hrel;obtain ⟨l,hl⟩:∃ y,y=t.bytes ++ List.replicate k 0:=⟨_,rfl⟩;have HL:=hid hl;rw [←hl] at HA;obtain ⟨av,cv,hv⟩:=row_sh HA.out.1;subst hv;obtain ⟨n,hn⟩:∃ y,y=l.length:=⟨_,rfl⟩;have HN:=hid hn;rw [←hn];rw [←hn] at HA
  have hnl:n=t.bytes.length + k:=by rw [hn,hl,List.length_append,List.length_replicate]
  have n2:(n:Int)≤2000000:=by have:=HTb.out;omega
  have q3:wr.cell? ⟨bx,3,none⟩=some (.int .i64 off):=(cell_of_row _ _ _ _ _ _ (HA.out.2.keep HBx.out (fun e=>e))).trans rfl;have HNl:=hid hnl;clear hl hn hnl
  by_cases hno:(n:Int) < off
  ·have hBo:BOw (wr.alloc (.cells #[.int .u8 0] 5)) W2.heap.size (.slice av n cv) l:=HA.out.1.call (Chg.alloc _ _ No)
   have hz0:(wr.alloc (.cells #[.int .u8 0] 5)).cell? ⟨wr.heap.size,0,none⟩=some (.int .u8 0):=(cell_of_row _ _ _ _ _ _ (heap_alloc_new _ _)).trans rfl;have HLn:Hid (l.length≤1000000000000):=hid (by rw [←HN.out];omega);have hBz:W2.heap.size≤(wr.alloc (.cells #[.int .u8 0] 5)).heap.size:=Nat.le_trans HA.out.2.size (Chg.alloc wr (.cells #[.int .u8 0] 5) No).size
   go_wp2_with (first
    | (at_builtin;go_must (refine wp_app8 rfl _ _ rfl W2.heap.size wr.heap.size 1 (.slice av n cv) l 0 rfl rfl hBo hz0 HLn.out hBz ?_;intro v1 W4 hOw hCh _;have HO1:=hid hOw;have HC1:=hid hCh;clear hOw hCh))
    | fail)
   obtain ⟨a1,c1,hv1⟩:=row_sh HO1.out;subst hv1
   have hl1:(l ++ [0]).length=n + 1:=by rw [List.length_append,←HN.out];rfl
   refine ⟨⟨_,k + 1,rfl,?_,hid ⟨?_,?_⟩⟩,?_⟩
   ·have:=HNl.out
    omega
   ·rw [List.replicate_succ',←List.append_assoc,←HL.out]
    exact HO1.out
   ·refine (HA.out.2.trans (Chg.alloc wr _ No) (fun _ _ e=>e) (fun _ _ e=>e)).trans HC1.out (fun _ _ e=>e) (fun k hk hv => ?_)
    rcases HA.out.1.2 with ⟨e1,_⟩ | ⟨g1,c1,c2,e1,hb1,_⟩
    ·rw [e1] at hv;cases hv
    ·rw [e1] at hv
     have:g1=k:=by simpa [Value.ownBlock] using hv
     omega
   ·show off.toNat - (l ++ [0]).length < off.toNat - n
    omega
  ·obtain ⟨o,rfl⟩:∃ o:Nat,off=(o:Int):=⟨off.toNat,by omega⟩
   have hon:o≤n:=by omega
   have HTr:Hid (truncB t.bytes o=l.take o):=hid (by
    have h3:=HNl.out;rw [HL.out];unfold truncB
    rw [List.take_append,List.take_append,List.take_replicate,List.take_replicate,Nat.min_self,Nat.min_eq_left (by omega)])
   have hTl:(l.take o).length=o:=by rw [List.length_take,←HN.out];omega
   have HTl:=hid hTl;obtain ⟨at1,cp1,hsh,hBy⟩:=BOw.one HA.out.1;rw [←HN.out] at hsh
   cases hsh
   have hcap:n≤cv:=by
    rcases HA.out.1.2 with ⟨e1,e2⟩ | ⟨gb,cap,cur,e1,hb1,hg1,hcp,_⟩
    ·cases e1;omega
    ·cases e1;exact hcp
   have HBrow:Hid (BRow wr (av,cv) (l.take o)):=hid ⟨by
     rcases hBy with e1 | ⟨b,oo,e1,hb,hc⟩
     ·exact .inl (by rw [e1,List.take_nil])
     ·refine .inr ⟨b,oo,e1,hb,fun j hj => ?_⟩
      rw [hTl] at hj
      rw [hc j (by rw [←HN.out];omega),List.getD_eq_getElem?_getD,List.getD_eq_getElem?_getD,List.getElem?_take,if_pos hj],by rw [hTl];exact Nat.le_trans hon hcap,fun g2 o2 e2=>by
     rcases HA.out.1.2 with ⟨e1,_⟩ | ⟨gb,cap,cur,e1,hb1,hg1,hcp,_⟩
     ·cases e1;cases e2
     ·cases e1;cases e2;exact ⟨cur,hg1⟩⟩
   clear hBy hTl
   go_upto_region 27 with fail
   have hdn:Chg wr wr.drew No:=(Chg.refl _ _).drew;have hd:Chg wr wr.drew (· = ga):=(Chg.refl _ _).drew;have HCd:Hid (Chg W2 wr.drew No):=hid (HA.out.2.tr hdn);have HIw:=hid (H1.out.call HA.out.2);obtain ⟨A,hA⟩:=HRow.out;have hRw:=HA.out.2.keep hA (fun e=>e);have hRd:=HCd.out.keep hA (fun e=>e)
   have K0:Hid (∀ W,Chg wr W (· = ga)→W.cell? ⟨c.g,0,none⟩=some (.slice (some ⟨ga,0,none⟩) m.things.length cpt)):=hid (fun W hW=>by
    have hme:=HIw.out.me
    have h5:=hW.keep hme (fun e1=>by
     have e1:c.g=ga:=e1;rw [e1,hRw] at hme
     injection hme with h1
     injection h1 with h2 h3
     exact absurd h3 (by decide))
    rw [cell_of_row _ _ _ _ _ _ h5,←HG1.out]
    rfl)
   have K3:Hid (∀ W,Chg wr W (· = ga)→W.cell? ⟨bx,3,none⟩=some (.int .i64 (o:Int))):=hid (fun W hW=>by
    have hb0:=HA.out.2.keep HBx.out (fun e=>e)
    have h5:=hW.keep hb0 (fun e1=>by
     have e1:bx=ga:=e1;rw [e1,hRw] at hb0
     injection hb0 with h1
     injection h1 with h2 h3
     exact absurd h3 (by decide))
    exact (cell_of_row _ _ _ _ _ _ h5).trans rfl)
   have hcp0:(o:Int)≤(cv:Int):=by omega
   refine wp_region_noPanic ?_;refine wp_region_held_drew (S:=fun W=>Chg wr W (· = ga)) (by kernel_rfl) hd (fun hH => ?_);refine tV 0 170 (.pointer (some ⟨c.g,0,none⟩)) rfl (by kernel_rfl) rfl (by rfl) hH (fun _ hw'=>rfl) ?_;simp only [sS];refine tV 1 171 (.pointer (some ⟨c.g,0,none⟩)) rfl (by kernel_rfl) rfl (by rfl) hH (fun _ hw'=>by go_simp) ?_;simp only [sS];refine tV 2 172 (.pointer (some ⟨c.g,0,none⟩)) rfl (by kernel_rfl) rfl (by rfl) hH (fun _ hw'=>by go_simp) ?_;simp only [sS];refine tV 3 173 (.slice (some ⟨ga,0,none⟩) m.things.length cpt) rfl (by kernel_rfl) rfl (by rfl) hH (fun _ hw'=>by have hc:=K0.out _ hw';go_simp) ?_;simp only [sS];refine tV 4 174 (.int .i64 (i:Int)) rfl (by kernel_rfl) rfl (by rfl) hH (fun _ hw'=>rfl) ?_;simp only [sS];refine tV 5 175 (.slice av n cv) rfl (by kernel_rfl) rfl (by rfl) hH (fun _ hw'=>rfl) ?_;simp only [sS];refine tV 6 176 (.pointer (some ⟨bx,3,none⟩)) rfl (by kernel_rfl) rfl (by rfl) hH (fun _ hw'=>by go_simp) ?_;simp only [sS];refine tV 7 177 (.int .i64 (o:Int)) rfl (by kernel_rfl) rfl (by rfl) hH (fun _ hw'=>by have hc:=K3.out _ hw';go_simp) ?_;simp only [sS];refine tV 8 178 (.slice av o cv) rfl (by kernel_rfl) rfl (by rfl) hH (fun _ hw'=>by go_simp) ?_;simp only [sS];refine tV 9 179 (.pointer (some ⟨ga,i * 4,none⟩)) rfl (by kernel_rfl) rfl (by rfl) hH (fun _ hw'=>by go_simp) ?_;simp only [sS];refine tV 10 180 (.pointer (some ⟨ga,i * 4 + 3,none⟩)) rfl (by kernel_rfl) rfl (by rfl) hH (fun _ hw'=>by go_simp) ?_;simp only [sS]
   have hcc:wr.drew.cell? ⟨ga,i * 4 + 3,none⟩=some (.slice bb.1 t.bytes.length bb.2):=by
    obtain ⟨g9,cp9,b9,e9,_,_,e8,_,_,_,_,e7⟩:=(H1.out.call HCd.out).thing HIi.out;rw [HG1.out] at e9
    cases e9
    rw [HBv.out] at e8
    cases e8
    exact e7
   have hff:wr.drew.frozen? ⟨ga,i * 4 + 3,none⟩=false:=frozen_of_row _ _ _ _ _ hRd;refine step1 11 (by kernel_rfl) ?_;refine stSet 11 rfl rfl (by rfl) (wr.drew.setCell ⟨ga,i * 4 + 3,none⟩ (.slice av o cv)) (by go_simp) ⟨hd.trans Chg.setCell (fun _ _ e=>e) (fun _ _ e=>e),?_⟩;refine wpAnyH_done (by kernel_rfl) ?_ _;refine NoPanic.normal ?_;have hF:=(H1.out.call HCd.out).setB HIi.out (bs:=l.take o) (a:=av) (q:=cv) HG1.out hRd (HBrow.out.rows hdn.size fun g A hg=>hdn.keep hg (fun e=>e));rw [HTl.out] at hF;have hM:MCh B w (wr.drew.setCell ⟨ga,i * 4 + 3,none⟩ (.slice av o cv)):=(HMA0.out.trans (MCh.of HCd.out)).trans (MCh.row HGa.out hRd (.inr (.inl rfl)) Chg.setCell);obtain ⟨W9,hW9⟩:∃ y,y=wr.drew.setCell ⟨ga,i * 4 + 3,none⟩ (.slice av o cv):=⟨_,rfl⟩;rw [←hW9] at hF hM ⊢;have HF9:=hid hF;have HM9:=hid hM;clear hH hF hM hW9 hcc hff hRd hRw hd hdn
   go_wp2_with fail
   go_end0
   exact ⟨rfl,⟨⟨c.g,c.tv,c.pv,c.bv.set i (av,cv)⟩,rfl,by first | (rw [Int.toNat_natCast,HTr.out];exact HF9.out) | (rw [HTr.out];exact HF9.out)⟩,HM9.out⟩
end Go.Proofs.YtmgfilacepnjlaaGreatDoor

namespace Go.Proofs.YtmgfilacepnjlaaGreatDoor
open Go.RowKit Go.PlainAid

set_option maxHeartbeats 4000000 in
set_option maxRecDepth 100000 in
theorem mo_done4 {B:Nat} {c:MC} {m:Mo} {ls:List ByteArray} {p tt:ByteArray} {off len made pick:Int} {da:Option Addr} {dl dc:Nat} (w:World) (h:IsMo w B c m) (hk:MoOk m) (hl:LL ls) (hp:p=TP ls) (hB:B≤w.heap.size):Calls Tryz.prog 11 #[.pointer (some ⟨c.g,0,none⟩),.agg #[.int .i64 4,.string p,.string tt,.int .i64 off,.int .i64 len,.slice da dl dc,.int .i64 made,.int .i64 pick]] w fun e w'=>e=.returned (.tuple #[])∧(∃ c',c'.g=c.g∧IsMo w' B c' (dropM m ls))∧MCh B w w':=by
 have h1:IsMo (w.alloc (.cells #[.int .i64 4,.string p,.string tt,.int .i64 off,.int .i64 len,.slice da dl dc,.int .i64 made,.int .i64 pick] 34)) B c m:=h.call (Chg.alloc w _ No);have hB1:B≤(w.alloc (.cells #[.int .i64 4,.string p,.string tt,.int .i64 off,.int .i64 len,.slice da dl dc,.int .i64 made,.int .i64 pick] 34)).heap.size:=Nat.le_trans hB (Chg.alloc w _ No).size;have hD:=mo_drop _ h1 hk hl hB1;rw [←hp] at hD;have HC:Hid (MCh B w (w.alloc (.cells #[.int .i64 4,.string p,.string tt,.int .i64 off,.int .i64 len,.slice da dl dc,.int .i64 made,.int .i64 pick] 34))):=hid (MCh.of (Chg.alloc w _ No));have HMe:=hid h1.me;have HGb:=hid h1.gB;clear h h1 hk hl hp hB hB1
 go_enter Tryz.func11,Tryz.ntmps11
 go_wp2_with (first
  | (go_at_call 32;go_must (refine hD.mono ?_;rintro e w1 ⟨rfl,pv,hI1,hC1⟩;have HI1:=hid hI1;have HC1:=hid hC1;clear hI1 hC1))
  | fail)
 go_end0
 exact ⟨rfl,⟨⟨c.g,c.tv,pv,c.bv⟩,rfl,HI1.out⟩,HC.out.trans (MCh.row HGb.out HMe.out (.inl rfl) HC1.out)⟩
set_option maxHeartbeats 4000000 in
set_option maxRecDepth 100000 in
theorem mo_done5 {B:Nat} {c:MC} {m:Mo} {ls:List ByteArray} {p tt:ByteArray} {off len made pick:Int} {da:Option Addr} {dl dc:Nat} (w:World) (h:IsMo w B c m) (hk:MoOk m) (hl:LL ls) (hp:p=TP ls) (hB:B≤w.heap.size):Calls Tryz.prog 11 #[.pointer (some ⟨c.g,0,none⟩),.agg #[.int .i64 5,.string p,.string tt,.int .i64 off,.int .i64 len,.slice da dl dc,.int .i64 made,.int .i64 pick]] w fun e w'=>e=.returned (.tuple #[])∧(∃ c',c'.g=c.g∧IsMo w' B c' (dropM m ls))∧MCh B w w':=by
 have h1:IsMo (w.alloc (.cells #[.int .i64 5,.string p,.string tt,.int .i64 off,.int .i64 len,.slice da dl dc,.int .i64 made,.int .i64 pick] 34)) B c m:=h.call (Chg.alloc w _ No);have hB1:B≤(w.alloc (.cells #[.int .i64 5,.string p,.string tt,.int .i64 off,.int .i64 len,.slice da dl dc,.int .i64 made,.int .i64 pick] 34)).heap.size:=Nat.le_trans hB (Chg.alloc w _ No).size;have hD:=mo_drop _ h1 hk hl hB1;rw [←hp] at hD;have HC:Hid (MCh B w (w.alloc (.cells #[.int .i64 5,.string p,.string tt,.int .i64 off,.int .i64 len,.slice da dl dc,.int .i64 made,.int .i64 pick] 34))):=hid (MCh.of (Chg.alloc w _ No));have HMe:=hid h1.me;have HGb:=hid h1.gB;clear h h1 hk hl hp hB hB1
 go_enter Tryz.func11,Tryz.ntmps11
 go_wp2_with (first
  | (go_at_call 32;go_must (refine hD.mono ?_;rintro e w1 ⟨rfl,pv,hI1,hC1⟩;have HI1:=hid hI1;have HC1:=hid hC1;clear hI1 hC1))
  | fail)
 go_end0
 exact ⟨rfl,⟨⟨c.g,c.tv,pv,c.bv⟩,rfl,HI1.out⟩,HC.out.trans (MCh.row HGb.out HMe.out (.inl rfl) HC1.out)⟩
set_option maxHeartbeats 4000000 in
set_option maxRecDepth 100000 in
theorem mo_done6 {B:Nat} {c:MC} {m:Mo} {ls ts:List ByteArray} {p tt:ByteArray} {off len made pick:Int} {da:Option Addr} {dl dc:Nat} (w:World) (h:IsMo w B c m) (hk:MoOk m) (hl:LL ls) (hne:ls≠[]) (hp:p=TP ls) (ht:LL ts) (htn:ts≠[]) (htt:tt=TP ts) (hB:B≤w.heap.size):Calls Tryz.prog 11 #[.pointer (some ⟨c.g,0,none⟩),.agg #[.int .i64 6,.string p,.string tt,.int .i64 off,.int .i64 len,.slice da dl dc,.int .i64 made,.int .i64 pick]] w fun e w'=>e=.returned (.tuple #[])∧(∃ c',c'.g=c.g∧IsMo w' B c' (movedM m ls ts))∧MCh B w w':=by
 have h1:IsMo (w.alloc (.cells #[.int .i64 6,.string p,.string tt,.int .i64 off,.int .i64 len,.slice da dl dc,.int .i64 made,.int .i64 pick] 34)) B c m:=h.call (Chg.alloc w _ No);have hB1:B≤(w.alloc (.cells #[.int .i64 6,.string p,.string tt,.int .i64 off,.int .i64 len,.slice da dl dc,.int .i64 made,.int .i64 pick] 34)).heap.size:=Nat.le_trans hB (Chg.alloc w _ No).size;have hD:=mo_moved _ h1 hk hl hne ht htn hB1;rw [←hp,←htt] at hD;have HC:Hid (MCh B w (w.alloc (.cells #[.int .i64 6,.string p,.string tt,.int .i64 off,.int .i64 len,.slice da dl dc,.int .i64 made,.int .i64 pick] 34))):=hid (MCh.of (Chg.alloc w _ No));clear h h1 hk hl hne hp hB hB1 ht htn htt
 go_enter Tryz.func11,Tryz.ntmps11
 go_wp2_with (first
  | (go_at_call 33;go_must (refine hD.mono ?_;rintro e w1 ⟨rfl,⟨pv,hI1⟩,hC1⟩;have HI1:=hid hI1;have HC1:=hid hC1;clear hI1 hC1))
  | fail)
 go_end0
 exact ⟨rfl,⟨⟨c.g,c.tv,pv,c.bv⟩,rfl,HI1.out⟩,HC.out.trans HC1.out⟩
end Go.Proofs.YtmgfilacepnjlaaGreatDoor

namespace Go.Proofs.YtmgfilacepnjlaaGreatDoor
open Go.RowKit

theorem IsPl.apartK {w w':World} {q:PC} {s:PSt} {ks:Nat→Prop} (h:IsPl w q s) (hc:Chg w w' ks) (hn:∀ j,PBlk q j→¬ ks j):IsPl w' q s :=
 ⟨hc.keep h.me (hn _ (.inl rfl)),h.mp.keep hc (hn _ (.inr (.inl rfl))),fun i c e=>by obtain ⟨x,h1,h2⟩:=h.nd i c e;exact ⟨x,h1,h2.keep hc (fun k hk=>hn k (PBlk.node e hk))⟩,h.dom,h.rng,h.ap,h.mne,h.bs⟩
theorem NowS.mch {w W W':World} {p:Nat} {s:PSt} (h:NowS w W p s) (hc:MCh w.heap.size W W'):NowS w W' p s:=by
 obtain ⟨q,h1,h2,h3,h4,h5⟩:=h;refine ⟨q,h1,h2.apartK hc fun j hj hk => ?_,h3,h4,h5.trans hc (fun _ _ e=>e) fun j hj hk=>absurd hk.2 (by omega)⟩;obtain ⟨⟨A,T,hA,hT⟩,_⟩:=hk
 exact h2.notB (by rcases hT with rfl | rfl | rfl <;> exact ⟨by decide,by decide,by decide⟩) hA hj
open Classical in
theorem fits_any {w:World} {B:Nat} {c:MC} {m:Mo} {o:OpS} {ls ts:List ByteArray} {da:Option Addr} {dl dc:Nat} (h:IsMo w B c m) (hk:MoOk m) (hd:Dp o ls ts) (hl:LL ls) (hp:o.path=TP ls) (ht:(o.kind=3∨o.kind=6)→LL ts∧o.tto=TP ts):Calls Tryz.prog 10 #[.pointer (some ⟨c.g,0,none⟩),.agg (opA o.kind o.path o.tto o.off o.len da dl dc o.made o.pick)] w fun e w'=>e=.returned (.bool (decide (fitsP m o.kind ls ts)))∧Chg w w' No:=by
 have hne:=hd.p.2.2.1;have hkr:=hd.k
 have hcs:o.kind=1∨o.kind=2∨o.kind=3∨o.kind=4∨o.kind=5∨o.kind=6∨o.kind=7∨o.kind=8:=by omega
 rcases hcs with e | e | e | e | e | e | e | e
 ·rw [e];exact mo_fits1 w h hk hl hne hp
 ·rw [e];exact mo_fits2 w h hk hl hne hp
 ·obtain ⟨t1,t2⟩:=ht (.inl e)
  have t3:=(hd.t (.inl e)).2.2.1;rw [e];exact mo_fits3 w h hk hl hne hp t1 t3 t2
 ·rw [e];exact mo_fits4 w h hk hl hne hp
 ·rw [e];exact mo_fits5 w h hk hl hne hp
 ·obtain ⟨t1,t2⟩:=ht (.inr e)
  have t3:=(hd.t (.inr e)).2.2.1;rw [e];exact mo_fits6 w h hk hl hne hp t1 t3 t2
 ·rw [e];exact mo_fits7 w h hk hl hne hp
 ·rw [e];exact mo_fits8 w h hk hl hne hp
theorem done_any {w:World} {B:Nat} {c:MC} {m:Mo} {s:PSt} {o:OpS} {ls ts:List ByteArray} {da:Option Addr} {dc:Nat} (h:IsMo w B c m) (hB:B≤w.heap.size) (hk:MoOk m) (hr:Rel m s) (hd:Dp o ls ts) (hl:LL ls) (hp:o.path=TP ls) (ht:(o.kind=3∨o.kind=6)→LL ts∧o.tto=TP ts) (hc:codeA (doS s o).2=0) (hdat:BytesAt w da o.data):Calls Tryz.prog 11 #[.pointer (some ⟨c.g,0,none⟩),.agg (opA o.kind o.path o.tto o.off o.len da o.data.length dc o.made o.pick)] w fun e w'=>e=.returned (.tuple #[])∧(∃ c',c'.g=c.g∧IsMo w' B c' (doneM m o ls ts))∧MCh B w w':=by
 have hne:=hd.p.2.2.1;have hkr:=hd.k;have hfit:=((hr.says hd).2 (by omega) (by omega)).1 hc
 have hfile:o.kind=7∨o.kind=8→∃ (i:Nat) (t:Th),m.things[i]? = some t∧thK m.things (atL m.paths ls) 0=(i:Int)∧t.bytes.length≤1000000∧∀ f,bytesM m ls f={ m with things:=m.things.set i { t with bytes:=f t.bytes } }:=fun hk7=>by
  unfold fitsP at hfit;rw [if_neg (by omega),if_neg (by omega),if_neg (by omega),if_neg (by omega),if_neg (by omega)] at hfit;have hfit0:=hfit;obtain ⟨t,h1,h2⟩:=hfit
  rcases walk_or s ls with ⟨j,hj⟩ | hj
  ·obtain ⟨id,y,t',_,_,h3,h4,h5,h6,h7,_,h8,_,h9⟩:=hr.at_in hne hj
   have hkd:=(hr.kind hne hj h4).2.1.1 hfit0;have hkk:=(hr.inv.inv.nd j y h4).kind;have hcn:=h8 (by omega);have hz:=hr.z j y h4;refine ⟨(id - 1).toNat,t',h5,by rw [h9];omega,by have:=hcn.1;have:=hz.2;omega,fun f => ?_⟩;unfold bytesM;rw [h9,h5]
  ·rw [(hr.at_out hj).2.1] at h1
   cases h1
 unfold doneM
 have hcs:o.kind=1∨o.kind=2∨o.kind=3∨o.kind=4∨o.kind=5∨o.kind=6∨o.kind=7∨o.kind=8:=by omega
 rcases hcs with e | e | e | e | e | e | e | e
 ·rw [if_pos (.inl e),decide_eq_false (by omega),e];exact mo_done1 w h hk hp hB
 ·rw [if_pos (.inr e),decide_eq_true e,e];exact mo_done2 w h hk hp hB
 ·obtain ⟨t1,t2⟩:=ht (.inl e)
  rw [if_neg (by omega),if_pos e,e];exact mo_done3 w h hk hl hp t2
 ·rw [if_neg (by omega),if_neg (by omega),if_pos (.inl e),e];exact mo_done4 w h hk hl hp hB
 ·rw [if_neg (by omega),if_neg (by omega),if_pos (.inr e),e];exact mo_done5 w h hk hl hp hB
 ·obtain ⟨t1,t2⟩:=ht (.inr e)
  have t3:=(hd.t (.inr e)).2.2.1;rw [if_neg (by omega),if_neg (by omega),if_neg (by omega),if_pos e,e];exact mo_done6 w h hk hl hne hp t1 t3 t2 hB
 ·obtain ⟨i,t,h1,h2,h3,h4⟩:=hfile (.inl e)
  have ho:=hd.off (.inl e);have hlen:=hd.len;rw [if_neg (by omega),if_neg (by omega),if_neg (by omega),if_neg (by omega),if_pos e,h4,e]
  exact mo_done7 w h hk hl hp h1 h2 ⟨ho.1,by omega⟩ h3 (by omega) hdat
 ·obtain ⟨i,t,h1,h2,h3,h4⟩:=hfile (.inr e)
  have ho:=hd.off (.inr e);rw [if_neg (by omega),if_neg (by omega),if_neg (by omega),if_neg (by omega),if_neg (by omega),h4,e]
  exact mo_done8 w h hk hl hp h1 h2 ⟨ho.1,by omega⟩ h3
end Go.Proofs.YtmgfilacepnjlaaGreatDoor
