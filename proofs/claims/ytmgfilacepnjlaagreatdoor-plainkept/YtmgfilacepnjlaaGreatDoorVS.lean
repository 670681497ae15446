/-
 The statements' helper op: a deed as an operation.
-/
import Derived.Test.YtmgfilacepnjlaaGreatDoorVI0
namespace Go.Proofs.YtmgfilacepnjlaaGreatDoor
open Go.RowKit

def deedA (kd a b off n:Int) (da:Option Addr) (dl dc:Nat):Array Value:=#[.int .i64 kd,.int .i64 a,.int .i64 b,.int .i64 off,.int .i64 n,.slice da dl dc]
def opZ:Array Value:=#[.int .i64 0,.string ⟨#[]⟩,.string ⟨#[]⟩,.int .i64 0,.int .i64 0,.slice none 0 0,.int .i64 0,.int .i64 0]
def offL:List Int:=[0,0,100,1500,5600,20000]
theorem bo1 (k m:Int) (t:ByteArray) (W:World):(Instr.build 34 #[(0,.int .i64 k),(1,.string t),(6,.int .i64 m)]).run Tryz.prog W=.ok (.agg #[.int .i64 k,.string t,.string ⟨#[]⟩,.int .i64 0,.int .i64 0,.slice none 0 0,.int .i64 m,.int .i64 0]) W:=by kernel_rfl
theorem bo2 (k:Int) (t u:ByteArray) (W:World):(Instr.build 34 #[(0,.int .i64 k),(1,.string t),(2,.string u)]).run Tryz.prog W=.ok (.agg #[.int .i64 k,.string t,.string u,.int .i64 0,.int .i64 0,.slice none 0 0,.int .i64 0,.int .i64 0]) W:=by kernel_rfl
theorem bo3 (k:Int) (t:ByteArray) (W:World):(Instr.build 34 #[(0,.int .i64 k),(1,.string t)]).run Tryz.prog W=.ok (.agg #[.int .i64 k,.string t,.string ⟨#[]⟩,.int .i64 0,.int .i64 0,.slice none 0 0,.int .i64 0,.int .i64 0]) W:=by kernel_rfl
theorem bo4 (k o:Int) (t:ByteArray) (a:Option Addr) (n c:Nat) (W:World):(Instr.build 34 #[(0,.int .i64 k),(1,.string t),(3,.int .i64 o),(5,.slice a n c)]).run Tryz.prog W=.ok (.agg #[.int .i64 k,.string t,.string ⟨#[]⟩,.int .i64 o,.int .i64 0,.slice a n c,.int .i64 0,.int .i64 0]) W:=by kernel_rfl
theorem bo5 (k o:Int) (t:ByteArray) (W:World):(Instr.build 34 #[(0,.int .i64 k),(1,.string t),(3,.int .i64 o)]).run Tryz.prog W=.ok (.agg #[.int .i64 k,.string t,.string ⟨#[]⟩,.int .i64 o,.int .i64 0,.slice none 0 0,.int .i64 0,.int .i64 0]) W:=by kernel_rfl
theorem offL_cell {W:World} {g m:Nat} (hm:m < 6) (h:W.heap[g]? = some (.cells #[.int .i64 0,.int .i64 0,.int .i64 100,.int .i64 1500,.int .i64 5600,.int .i64 20000] 3 (0,0))):W.cell? ⟨g,m,none⟩=some (.int .i64 (offL.getD m 0)):=by
 rw [cell_of_row _ _ _ _ _ _ h]
 have hcs:m=0∨m=1∨m=2∨m=3∨m=4∨m=5:=by omega
 rcases hcs with rfl | rfl | rfl | rfl | rfl | rfl <;> rfl
def OpIs (k made off:Int) (path tto:ByteArray) (dl:Nat):Prop:=path∈textL∧(((k=1∨k=2)∧tto=⟨#[]⟩∧off=0∧dl=0∧0≤made∧made≤999)∨((k=3∨k=6)∧tto∈textL∧off=0∧dl=0∧made=0)∨((k=4∨k=5)∧tto=⟨#[]⟩∧off=0∧dl=0∧made=0)∨(k=7∧tto=⟨#[]⟩∧(0≤off∧off≤20299)∧dl≤3000∧made=0)∨(k=8∧tto=⟨#[]⟩∧(0≤off∧off≤20299)∧dl=0∧made=0))
def OpOf (da:Option Addr) (dl dc:Nat) (A:Array Value):Prop:=∃ (k made off:Int) (path tto:ByteArray) (da':Option Addr) (dl' dc':Nat),A=opA k path tto off 0 da' dl' dc' made 0∧((da'=none∧dl'=0)∨(da'=da∧dl'≤dl∧dc'=dc))∧OpIs k made off path tto dl'
theorem text_mem (n:Int):textN n∈textL:=by
 have h:=pickN_bd n (n:=15) (by omega);have hl:textL.length=15:=rfl;unfold textN;rw [List.getD_eq_getElem?_getD,List.getElem?_eq_getElem (by omega)]
 exact List.getElem_mem _
set_option maxHeartbeats 8000000 in
set_option maxRecDepth 100000 in
theorem op_any (kd a b off n:Int) (da:Option Addr) (dl dc:Nat) (w:World) (h1:I64 kd) (h2:I64 a) (h3:I64 b) (h4:I64 off) (h5:I64 n) (hdc:dl≤dc) (hdc2:dc≤maxLen) (hda:da=none→dl=0):Calls Tryz.prog 8 #[.agg (deedA kd a b off n da dl dc)] w fun e w'=>∃ A,e=.returned (.agg A)∧OpOf da dl dc A∧Chg w w' No:=by
 obtain ⟨w1,hw1⟩:∃ y,y=(w.alloc (.cells (deedA kd a b off n da dl dc) 36)).alloc (.cells opZ 34):=⟨_,rfl⟩
 have hc1:Chg w w1 No:=by rw [hw1];exact (Chg.alloc w _ No).tr (Chg.alloc _ _ No)
 have HD:Hid (∀ W,Chg w1 W No→W.heap[w.heap.size]? = some (.cells (deedA kd a b off n da dl dc) 36 (0,0))):=hid (fun W hW=>hW.keep (by rw [hw1];exact (Chg.alloc _ _ No).keep (heap_alloc_new w _) (fun e=>e)) (fun e=>e))
 have HO:Hid (∀ W,Chg w1 W No→W.heap[w.heap.size + 1]? = some (.cells opZ 34 (0,0))):=hid (fun W hW=>hW.keep (by
  have:=heap_alloc_new (w.alloc (.cells (deedA kd a b off n da dl dc) 36)) (.cells opZ 34);rw [show (w.alloc (.cells (deedA kd a b off n da dl dc) 36)).heap.size=w.heap.size + 1 by simp] at this;rw [hw1]
  exact this) (fun e=>e))
 have HTa:Hid (∀ W,Calls Tryz.prog 15 #[.int .i64 a] W fun e w'=>e=.returned (.string (textN a))∧Chg W w' No):=hid (fun W=>text_any a W h2);have HTb:Hid (∀ W,Calls Tryz.prog 15 #[.int .i64 b] W fun e w'=>e=.returned (.string (textN b))∧Chg W w' No):=hid (fun W=>text_any b W h3);have HP6:Hid (∀ W,Calls Tryz.prog 17 #[.int .i64 off,.int .i64 6] W fun e w'=>e=.returned (.int .i64 (pickN off 6))∧W=w'):=hid (fun W=>pick_any off 6 W h4 (by omega) (by omega));have HP3:Hid (∀ W,Calls Tryz.prog 17 #[.int .i64 (Int.tdiv off 6),.int .i64 300] W fun e w'=>e=.returned (.int .i64 (pickN (Int.tdiv off 6) 300))∧W=w'):=hid (fun W=>pick_any _ 300 W (tdiv_bd off 6 (by omega) h4) (by omega) (by omega));have HPk:Hid (∀ W,Calls Tryz.prog 17 #[.int .i64 kd,.int .i64 14] W fun e w'=>e=.returned (.int .i64 (pickN kd 14))∧W=w'):=hid (fun W=>pick_any kd 14 W h1 (by omega) (by omega));have HPn:Hid (∀ W,Calls Tryz.prog 17 #[.int .i64 n,.int .i64 1000] W fun e w'=>e=.returned (.int .i64 (pickN n 1000))∧W=w'):=hid (fun W=>pick_any n 1000 W h5 (by omega) (by omega));have HQ:=HD
 have q:∀ W,Chg w1 W No→∀ (k:Nat) v,(deedA kd a b off n da dl dc)[k]? = some v→W.cell? ⟨w.heap.size,k,none⟩=some v:=fun W hW k v hv=>by rw [cell_of_row _ _ _ _ _ _ (HD.out W hW)];exact hv
 have HQ0:Hid (∀ W,Chg w1 W No→W.cell? ⟨w.heap.size,0,none⟩=some (.int .i64 kd)):=hid (fun W hW=>q W hW 0 _ rfl);have HQ3:Hid (∀ W,Chg w1 W No→W.cell? ⟨w.heap.size,3,none⟩=some (.int .i64 off)):=hid (fun W hW=>q W hW 3 _ rfl);have HQ4:Hid (∀ W,Chg w1 W No→W.cell? ⟨w.heap.size,4,none⟩=some (.int .i64 n)):=hid (fun W hW=>q W hW 4 _ rfl);have HQ5:Hid (∀ W,Chg w1 W No→W.cell? ⟨w.heap.size,5,none⟩=some (.slice da dl dc)):=hid (fun W hW=>q W hW 5 _ rfl);have q1:=q w1 (Chg.refl _ _) 1 _ rfl;have HQ2:Hid (∀ W,Chg w1 W No→W.cell? ⟨w.heap.size,2,none⟩=some (.int .i64 b)):=hid (fun W hW=>q W hW 2 _ rfl);have HTL:Hid (textN a∈textL∧textN b∈textL):=hid ⟨text_mem a,text_mem b⟩;obtain ⟨ta,hta⟩:∃ y,y=textN a:=⟨_,rfl⟩;obtain ⟨tb,htb⟩:∃ y,y=textN b:=⟨_,rfl⟩;rw [←hta] at HTa HTL;rw [←htb] at HTb HTL;obtain ⟨b60,b61⟩:=pickN_bd off (n:=6) (by omega);obtain ⟨b30,b31⟩:=pickN_bd (Int.tdiv off 6) (n:=300) (by omega);obtain ⟨bk0,bk1⟩:=pickN_bd kd (n:=14) (by omega);have HRn0:Hid (0≤pickN n 1000∧pickN n 1000≤999):=hid (by have:=pickN_bd n (n:=1000) (by omega);omega);obtain ⟨r6,hr6⟩:∃ y:Nat,(y:Int)=pickN off 6:=⟨(pickN off 6).toNat,by omega⟩;obtain ⟨r3,hr3⟩:∃ y,y=pickN (Int.tdiv off 6) 300:=⟨_,rfl⟩;obtain ⟨rk,hrk⟩:∃ y,y=pickN kd 14:=⟨_,rfl⟩;obtain ⟨rn,hrn⟩:∃ y,y=pickN n 1000:=⟨_,rfl⟩;rw [←hr6] at HP6 b61;rw [←hr3] at HP3 b30 b31;rw [←hrk] at HPk bk0 bk1;rw [←hrn] at HPn HRn0;obtain ⟨od,hod⟩:∃ y,y=Int.tdiv off 6:=⟨_,rfl⟩;rw [←hod] at HP3;have HOd:=hid hod;have WOd:Hid (IntKind.i64.wrap od=od):=hid (by have:=tdiv_bd off 6 (by omega) h4;rw [←hod] at this;obtain ⟨x1,x2⟩:=this;rw [IntKind.wrap_i64];omega);obtain ⟨o6,ho6⟩:∃ y,y=offL.getD r6 0:=⟨_,rfl⟩
 have B6:Hid (0≤o6∧o6≤20000):=hid (by
  rw [ho6]
  have hcs:r6=0∨r6=1∨r6=2∨r6=3∨r6=4∨r6=5:=by omega
  rcases hcs with rfl | rfl | rfl | rfl | rfl | rfl <;> decide)
 have HO6:=hid ho6;have HOf:Hid (0≤o6 + r3∧o6 + r3≤20299):=hid (by have:=B6.out;omega);have HR6:Hid (r6 < 6):=hid (by omega);have WO:Hid (IntKind.i64.wrap (o6 + r3)=o6 + r3):=hid (by rw [IntKind.wrap_i64];have:=B6.out;omega);have s6:(r6:Int) < 6:=b61;have HC1:=hid hc1;have HDl:=hid hdc;have HDn:=hid hda;have HKb:=hid (And.intro bk0 bk1);have b1:=bo1;have b2:=bo2;have b3:=bo3;have b4:=bo4;have b5:=bo5;unfold deedA at hw1 ⊢;unfold opZ at hw1;have e1:=hw1;have HMx:Hid (dc≤maxLen):=hid hdc2
 have d1:(dl:Int)≤(dc:Int):=by omega
 have d2:(dc:Int)≤9223372036854775807:=by unfold maxLen at hdc2;omega
 clear h1 h2 h3 h4 h5 hdc hdc2 hda hc1 q hta htb b60 b61 b30 b31 hr6 hr3 hrk hrn hod ho6 hw1 HD HQ bk0 bk1
 go_enter Tryz.func8,Tryz.ntmps8
 go_upto_region 1 with fail
 rw [←e1];clear e1;have hT1:=HTa.out w1
 go_upto_region 2 with (go_at_call 15;go_must (refine hT1.mono ?_;rintro e w2 ⟨rfl,hc2⟩;have HC2:=hid hc2;clear hc2))
 clear hT1 q1;have hT2:=HTb.out w2;have q2:=HQ2.out w2 HC2.out
 go_upto_region 3 with (go_at_call 15;go_must (refine hT2.mono ?_;rintro e w3 ⟨rfl,hc3⟩;have HC3:Hid (Chg w1 w3 No):=hid (HC2.out.tr hc3);clear hc3))
 clear hT2 q2 HC2;refine wp_region_noPanic ?_;refine wp_region_held_drew (S:=fun w'=>Chg w1 w' No) (by kernel_rfl) HC3.out.drew (fun hH => ?_);refine tV 1 14 (.pointer (some ⟨w.heap.size,3,none⟩)) rfl (by kernel_rfl) rfl (by rfl) hH (fun W' hw'=>by go_simp) ?_;simp only [sS];refine tV 2 15 (.int .i64 off) rfl (by kernel_rfl) rfl (by rfl) hH (fun W' hw'=>by have hc:=HQ3.out W' hw';go_simp) ?_;simp only [sS];refine tV 6 19 (.pointer (some ⟨w.heap.size,3,none⟩)) rfl (by kernel_rfl) rfl (by rfl) hH (fun W' hw'=>by go_simp) ?_;simp only [sS];refine tV 7 20 (.int .i64 off) rfl (by kernel_rfl) rfl (by rfl) hH (fun W' hw'=>by have hc:=HQ3.out W' hw';go_simp) ?_;simp only [sS];refine tV 8 21 (.int .i64 od) rfl (by kernel_rfl) rfl (by rfl) hH (fun W' hw'=>by rw [HOd.out];go_simp;rw [←HOd.out];exact WOd.out) ?_;simp only [sS]
 have hcut:∀ {T G:Prop},(T→G)→T→G:=fun f t=>f t
 apply hcut
 ·intro hE
  refine step2 0 3 (by kernel_rfl) ?_ ?_
  ·have hca:Chg w1 (w3.drew.alloc (.cells #[.int .i64 0,.int .i64 0,.int .i64 100,.int .i64 1500,.int .i64 5600,.int .i64 20000] 3)) No:=hH.tr (Chg.alloc _ _ No)
   have hgn:=heap_alloc_new w3.drew (.cells #[.int .i64 0,.int .i64 0,.int .i64 100,.int .i64 1500,.int .i64 5600,.int .i64 20000] 3);refine stNew 0 13 (.slice (some ⟨w3.drew.heap.size,0,none⟩) 6 6) (.cells #[.int .i64 0,.int .i64 0,.int .i64 100,.int .i64 1500,.int .i64 5600,.int .i64 20000] 3) rfl rfl (by rfl) (by go_simp) ⟨hca,?_⟩;simp only [sS];refine wpAnyH_more (S':=fun w'=>Chg w1 w' No∧w'.heap[w3.drew.heap.size]? = some (.cells #[.int .i64 0,.int .i64 0,.int .i64 100,.int .i64 1500,.int .i64 5600,.int .i64 20000] 3 (0,0))) (fun _ h=>h.1) _ _ _ _ ?_;have hSn:Chg w1 (w3.drew.alloc (.cells #[.int .i64 0,.int .i64 0,.int .i64 100,.int .i64 1500,.int .i64 5600,.int .i64 20000] 3)) No∧(w3.drew.alloc (.cells #[.int .i64 0,.int .i64 0,.int .i64 100,.int .i64 1500,.int .i64 5600,.int .i64 20000] 3)).heap[w3.drew.heap.size]? = some (.cells #[.int .i64 0,.int .i64 0,.int .i64 100,.int .i64 1500,.int .i64 5600,.int .i64 20000] 3 (0,0)):=⟨hca,hgn⟩;obtain ⟨gs,hgs⟩:∃ y,y=w3.drew.heap.size:=⟨_,rfl⟩;rw [←hgs] at hSn hgn ⊢;have HGs:=hid hgs;clear hgs;refine step1 3 (by kernel_rfl) ?_;refine stCall 3 16 17 #[.int .i64 off,.int .i64 6] _ rfl rfl (by rfl) (by go_simp) (HP6.out _) ?_
   rintro e wp ⟨rfl,rfl⟩
   refine ⟨_,rfl,hSn,?_⟩;simp only [sS];refine tV 4 17 (.pointer (some ⟨gs,r6,none⟩)) rfl (by kernel_rfl) rfl (by rfl) hSn (fun W' hw'=>by go_simp) ?_;simp only [sS];refine tV 5 18 (.int .i64 o6) rfl (by kernel_rfl) rfl (by rfl) hSn (fun W' hw'=>by have hc:=offL_cell HR6.out hw'.2;rw [←HO6.out] at hc;go_simp) ?_;simp only [sS];refine step1 9 (by kernel_rfl) ?_;refine stCall 9 22 17 #[.int .i64 od,.int .i64 300] _ rfl rfl (by rfl) (by go_simp) (HP3.out _) ?_
   rintro e wp ⟨rfl,rfl⟩
   refine ⟨_,rfl,hSn,?_⟩;simp only [sS];refine tV 10 23 (.int .i64 (o6 + r3)) rfl (by kernel_rfl) rfl (by rfl) hSn (fun W' hw'=>by go_simp;exact WO.out) ?_;simp only [sS];refine tV 11 5 (.int .i64 (o6 + r3)) rfl (by kernel_rfl) rfl (by rfl) hSn (fun W' hw'=>rfl) ?_;simp only [sS];have hgs:=HGs.out;subst hgs;refine wpAnyH_done (by kernel_rfl) ?_ _;refine NoPanic.normal ?_
   exact hE
  ·refine stCall 3 16 17 #[.int .i64 off,.int .i64 6] _ rfl rfl (by rfl) (by go_simp) (HP6.out _) ?_
   rintro e wp ⟨rfl,rfl⟩
   refine ⟨_,rfl,hH,?_⟩;simp only [sS];refine step2 0 9 (by kernel_rfl) ?_ ?_
   ·have hca:Chg w1 (w3.drew.alloc (.cells #[.int .i64 0,.int .i64 0,.int .i64 100,.int .i64 1500,.int .i64 5600,.int .i64 20000] 3)) No:=hH.tr (Chg.alloc _ _ No)
    have hgn:=heap_alloc_new w3.drew (.cells #[.int .i64 0,.int .i64 0,.int .i64 100,.int .i64 1500,.int .i64 5600,.int .i64 20000] 3);refine stNew 0 13 (.slice (some ⟨w3.drew.heap.size,0,none⟩) 6 6) (.cells #[.int .i64 0,.int .i64 0,.int .i64 100,.int .i64 1500,.int .i64 5600,.int .i64 20000] 3) rfl rfl (by rfl) (by go_simp) ⟨hca,?_⟩;simp only [sS];refine wpAnyH_more (S':=fun w'=>Chg w1 w' No∧w'.heap[w3.drew.heap.size]? = some (.cells #[.int .i64 0,.int .i64 0,.int .i64 100,.int .i64 1500,.int .i64 5600,.int .i64 20000] 3 (0,0))) (fun _ h=>h.1) _ _ _ _ ?_;have hSn:Chg w1 (w3.drew.alloc (.cells #[.int .i64 0,.int .i64 0,.int .i64 100,.int .i64 1500,.int .i64 5600,.int .i64 20000] 3)) No∧(w3.drew.alloc (.cells #[.int .i64 0,.int .i64 0,.int .i64 100,.int .i64 1500,.int .i64 5600,.int .i64 20000] 3)).heap[w3.drew.heap.size]? = some (.cells #[.int .i64 0,.int .i64 0,.int .i64 100,.int .i64 1500,.int .i64 5600,.int .i64 20000] 3 (0,0)):=⟨hca,hgn⟩;obtain ⟨gs,hgs⟩:∃ y,y=w3.drew.heap.size:=⟨_,rfl⟩;rw [←hgs] at hSn hgn ⊢;have HGs:=hid hgs;clear hgs;refine tV 4 17 (.pointer (some ⟨gs,r6,none⟩)) rfl (by kernel_rfl) rfl (by rfl) hSn (fun W' hw'=>by go_simp) ?_;simp only [sS];refine tV 5 18 (.int .i64 o6) rfl (by kernel_rfl) rfl (by rfl) hSn (fun W' hw'=>by have hc:=offL_cell HR6.out hw'.2;rw [←HO6.out] at hc;go_simp) ?_;simp only [sS];refine step1 9 (by kernel_rfl) ?_;refine stCall 9 22 17 #[.int .i64 od,.int .i64 300] _ rfl rfl (by rfl) (by go_simp) (HP3.out _) ?_
    rintro e wp ⟨rfl,rfl⟩
    refine ⟨_,rfl,hSn,?_⟩;simp only [sS];refine tV 10 23 (.int .i64 (o6 + r3)) rfl (by kernel_rfl) rfl (by rfl) hSn (fun W' hw'=>by go_simp;exact WO.out) ?_;simp only [sS];refine tV 11 5 (.int .i64 (o6 + r3)) rfl (by kernel_rfl) rfl (by rfl) hSn (fun W' hw'=>rfl) ?_;simp only [sS];have hgs:=HGs.out;subst hgs;refine wpAnyH_done (by kernel_rfl) ?_ _;refine NoPanic.normal ?_
    exact hE
   ·refine stCall 9 22 17 #[.int .i64 od,.int .i64 300] _ rfl rfl (by rfl) (by go_simp) (HP3.out _) ?_
    rintro e wp ⟨rfl,rfl⟩
    refine ⟨_,rfl,hH,?_⟩;simp only [sS];refine step1 0 (by kernel_rfl) ?_;have hca:Chg w1 (w3.drew.alloc (.cells #[.int .i64 0,.int .i64 0,.int .i64 100,.int .i64 1500,.int .i64 5600,.int .i64 20000] 3)) No:=hH.tr (Chg.alloc _ _ No);have hgn:=heap_alloc_new w3.drew (.cells #[.int .i64 0,.int .i64 0,.int .i64 100,.int .i64 1500,.int .i64 5600,.int .i64 20000] 3);refine stNew 0 13 (.slice (some ⟨w3.drew.heap.size,0,none⟩) 6 6) (.cells #[.int .i64 0,.int .i64 0,.int .i64 100,.int .i64 1500,.int .i64 5600,.int .i64 20000] 3) rfl rfl (by rfl) (by go_simp) ⟨hca,?_⟩;simp only [sS];refine wpAnyH_more (S':=fun w'=>Chg w1 w' No∧w'.heap[w3.drew.heap.size]? = some (.cells #[.int .i64 0,.int .i64 0,.int .i64 100,.int .i64 1500,.int .i64 5600,.int .i64 20000] 3 (0,0))) (fun _ h=>h.1) _ _ _ _ ?_;have hSn:Chg w1 (w3.drew.alloc (.cells #[.int .i64 0,.int .i64 0,.int .i64 100,.int .i64 1500,.int .i64 5600,.int .i64 20000] 3)) No∧(w3.drew.alloc (.cells #[.int .i64 0,.int .i64 0,.int .i64 100,.int .i64 1500,.int .i64 5600,.int .i64 20000] 3)).heap[w3.drew.heap.size]? = some (.cells #[.int .i64 0,.int .i64 0,.int .i64 100,.int .i64 1500,.int .i64 5600,.int .i64 20000] 3 (0,0)):=⟨hca,hgn⟩;obtain ⟨gs,hgs⟩:∃ y,y=w3.drew.heap.size:=⟨_,rfl⟩;rw [←hgs] at hSn hgn ⊢;have HGs:=hid hgs;clear hgs;refine tV 4 17 (.pointer (some ⟨gs,r6,none⟩)) rfl (by kernel_rfl) rfl (by rfl) hSn (fun W' hw'=>by go_simp) ?_;simp only [sS];refine tV 5 18 (.int .i64 o6) rfl (by kernel_rfl) rfl (by rfl) hSn (fun W' hw'=>by have hc:=offL_cell HR6.out hw'.2;rw [←HO6.out] at hc;go_simp) ?_;simp only [sS];refine tV 10 23 (.int .i64 (o6 + r3)) rfl (by kernel_rfl) rfl (by rfl) hSn (fun W' hw'=>by go_simp;exact WO.out) ?_;simp only [sS];refine tV 11 5 (.int .i64 (o6 + r3)) rfl (by kernel_rfl) rfl (by rfl) hSn (fun W' hw'=>rfl) ?_;simp only [sS];have hgs:=HGs.out;subst hgs;refine wpAnyH_done (by kernel_rfl) ?_ _;refine NoPanic.normal ?_
    exact hE
 ·have hca:Chg w1 (w3.drew.alloc (.cells #[.int .i64 0,.int .i64 0,.int .i64 100,.int .i64 1500,.int .i64 5600,.int .i64 20000] 3)) No:=hH.tr (Chg.alloc _ _ No)
  have HC4:=hid hca;clear hH hca;obtain ⟨w4,hw4⟩:∃ y,y=w3.drew.alloc (.cells #[.int .i64 0,.int .i64 0,.int .i64 100,.int .i64 1500,.int .i64 5600,.int .i64 20000] 3):=⟨_,rfl⟩;rw [←hw4] at HC4 ⊢;clear hw4 HC3;have hPk:=HPk.out w4;have hPn:=HPn.out w4;have q0:=HQ0.out w4 HC4.out;have q4:=HQ4.out w4 HC4.out;have q5:=HQ5.out w4 HC4.out;have qO:=HO.out w4 HC4.out;unfold opZ at qO;obtain ⟨of,hof⟩:∃ y,y=o6 + r3:=⟨_,rfl⟩;rw [←hof] at HOf ⊢;clear hof WO WOd HOd
  by_cases hdl:3000 < dl
  ·have l1:(3000:Int) < (dl:Int):=by omega
   obtain ⟨ad,rfl⟩:∃ ad,da=some ad:=by
    cases hd:da with
    | none=>have:=HDn.out hd;omega
    | some ad=>exact ⟨ad,rfl⟩
   have l2:(3000:Int)≤(dc:Int):=by omega
   go_upto_region 8 with (go_at_call 17;go_must (refine hPk.mono ?_;rintro e w5 ⟨rfl,rfl⟩))
   obtain ⟨k0,k1⟩:=HKb.out
   have hcs:rk=0∨rk=1∨rk=2∨rk=3∨rk=4∨rk=5∨rk=6∨rk=7∨rk=8∨rk=9∨rk=10∨rk=11∨rk=12∨rk=13:=by omega
   clear k0 k1 hPk HKb HPk
   skip
   rcases hcs with rfl | rfl | rfl | rfl | rfl | rfl | rfl | rfl | rfl | rfl | rfl | rfl | rfl | rfl
   ·go_wp2_with (first
      | (go_at_call 17;go_must (refine hPn.mono ?_;rintro e w6 ⟨rfl,rfl⟩))
      | (refine store_R rfl 34 _ _ rfl (w.heap.size + 1) #[.int .i64 1,.string ta,.string ⟨#[]⟩,.int .i64 0,.int .i64 0,.slice none 0 0,.int .i64 rn,.int .i64 0] rfl rfl 34 _ qO (by rw [szOp];rfl) rfl (by simp [Value.oneCell']) ?_;intro w7 hw7)
      | fail)
    exact bodyPost_ret (v:=.agg #[.int .i64 1,.string ta,.string ⟨#[]⟩,.int .i64 0,.int .i64 0,.slice none 0 0,.int .i64 rn,.int .i64 0]) (results_R1 Tryz.results8 _ _ (w.heap.size + 1) _ 34 _ Tryz.underlying34 rfl (by rw [szOp];rfl) rfl hw7.here) rfl ⟨_,rfl,⟨1,rn,0,ta,⟨#[]⟩,none,0,0,rfl,.inl ⟨rfl,rfl⟩,HTL.out.1,.inl ⟨.inl rfl,rfl,rfl,rfl,HRn0.out⟩⟩,(HC1.out.tr HC4.out).trans (kt_new hw7) (fun _ _ e=>e) (fun j hj e=>by omega)⟩
   ·go_wp2_with (first
      | (go_at_call 17;go_must (refine hPn.mono ?_;rintro e w6 ⟨rfl,rfl⟩))
      | (refine store_R rfl 34 _ _ rfl (w.heap.size + 1) #[.int .i64 1,.string ta,.string ⟨#[]⟩,.int .i64 0,.int .i64 0,.slice none 0 0,.int .i64 rn,.int .i64 0] rfl rfl 34 _ qO (by rw [szOp];rfl) rfl (by simp [Value.oneCell']) ?_;intro w7 hw7)
      | fail)
    exact bodyPost_ret (v:=.agg #[.int .i64 1,.string ta,.string ⟨#[]⟩,.int .i64 0,.int .i64 0,.slice none 0 0,.int .i64 rn,.int .i64 0]) (results_R1 Tryz.results8 _ _ (w.heap.size + 1) _ 34 _ Tryz.underlying34 rfl (by rw [szOp];rfl) rfl hw7.here) rfl ⟨_,rfl,⟨1,rn,0,ta,⟨#[]⟩,none,0,0,rfl,.inl ⟨rfl,rfl⟩,HTL.out.1,.inl ⟨.inl rfl,rfl,rfl,rfl,HRn0.out⟩⟩,(HC1.out.tr HC4.out).trans (kt_new hw7) (fun _ _ e=>e) (fun j hj e=>by omega)⟩
   ·go_wp2_with (first
      | (go_at_call 17;go_must (refine hPn.mono ?_;rintro e w6 ⟨rfl,rfl⟩))
      | (refine store_R rfl 34 _ _ rfl (w.heap.size + 1) #[.int .i64 1,.string ta,.string ⟨#[]⟩,.int .i64 0,.int .i64 0,.slice none 0 0,.int .i64 rn,.int .i64 0] rfl rfl 34 _ qO (by rw [szOp];rfl) rfl (by simp [Value.oneCell']) ?_;intro w7 hw7)
      | fail)
    exact bodyPost_ret (v:=.agg #[.int .i64 1,.string ta,.string ⟨#[]⟩,.int .i64 0,.int .i64 0,.slice none 0 0,.int .i64 rn,.int .i64 0]) (results_R1 Tryz.results8 _ _ (w.heap.size + 1) _ 34 _ Tryz.underlying34 rfl (by rw [szOp];rfl) rfl hw7.here) rfl ⟨_,rfl,⟨1,rn,0,ta,⟨#[]⟩,none,0,0,rfl,.inl ⟨rfl,rfl⟩,HTL.out.1,.inl ⟨.inl rfl,rfl,rfl,rfl,HRn0.out⟩⟩,(HC1.out.tr HC4.out).trans (kt_new hw7) (fun _ _ e=>e) (fun j hj e=>by omega)⟩
   ·go_wp2_with (first
      | (go_at_call 17;go_must (refine hPn.mono ?_;rintro e w6 ⟨rfl,rfl⟩))
      | (refine store_R rfl 34 _ _ rfl (w.heap.size + 1) #[.int .i64 2,.string ta,.string ⟨#[]⟩,.int .i64 0,.int .i64 0,.slice none 0 0,.int .i64 rn,.int .i64 0] rfl rfl 34 _ qO (by rw [szOp];rfl) rfl (by simp [Value.oneCell']) ?_;intro w7 hw7)
      | fail)
    exact bodyPost_ret (v:=.agg #[.int .i64 2,.string ta,.string ⟨#[]⟩,.int .i64 0,.int .i64 0,.slice none 0 0,.int .i64 rn,.int .i64 0]) (results_R1 Tryz.results8 _ _ (w.heap.size + 1) _ 34 _ Tryz.underlying34 rfl (by rw [szOp];rfl) rfl hw7.here) rfl ⟨_,rfl,⟨2,rn,0,ta,⟨#[]⟩,none,0,0,rfl,.inl ⟨rfl,rfl⟩,HTL.out.1,.inl ⟨.inr rfl,rfl,rfl,rfl,HRn0.out⟩⟩,(HC1.out.tr HC4.out).trans (kt_new hw7) (fun _ _ e=>e) (fun j hj e=>by omega)⟩
   ·go_wp2_with (first
      | (go_at_call 17;go_must (refine hPn.mono ?_;rintro e w6 ⟨rfl,rfl⟩))
      | (refine store_R rfl 34 _ _ rfl (w.heap.size + 1) #[.int .i64 2,.string ta,.string ⟨#[]⟩,.int .i64 0,.int .i64 0,.slice none 0 0,.int .i64 rn,.int .i64 0] rfl rfl 34 _ qO (by rw [szOp];rfl) rfl (by simp [Value.oneCell']) ?_;intro w7 hw7)
      | fail)
    exact bodyPost_ret (v:=.agg #[.int .i64 2,.string ta,.string ⟨#[]⟩,.int .i64 0,.int .i64 0,.slice none 0 0,.int .i64 rn,.int .i64 0]) (results_R1 Tryz.results8 _ _ (w.heap.size + 1) _ 34 _ Tryz.underlying34 rfl (by rw [szOp];rfl) rfl hw7.here) rfl ⟨_,rfl,⟨2,rn,0,ta,⟨#[]⟩,none,0,0,rfl,.inl ⟨rfl,rfl⟩,HTL.out.1,.inl ⟨.inr rfl,rfl,rfl,rfl,HRn0.out⟩⟩,(HC1.out.tr HC4.out).trans (kt_new hw7) (fun _ _ e=>e) (fun j hj e=>by omega)⟩
   ·go_wp2_with (first
      | (refine store_R rfl 34 _ _ rfl (w.heap.size + 1) #[.int .i64 3,.string ta,.string tb,.int .i64 0,.int .i64 0,.slice none 0 0,.int .i64 0,.int .i64 0] rfl rfl 34 _ qO (by rw [szOp];rfl) rfl (by simp [Value.oneCell']) ?_;intro w7 hw7)
      | fail)
    exact bodyPost_ret (v:=.agg #[.int .i64 3,.string ta,.string tb,.int .i64 0,.int .i64 0,.slice none 0 0,.int .i64 0,.int .i64 0]) (results_R1 Tryz.results8 _ _ (w.heap.size + 1) _ 34 _ Tryz.underlying34 rfl (by rw [szOp];rfl) rfl hw7.here) rfl ⟨_,rfl,⟨3,0,0,ta,tb,none,0,0,rfl,.inl ⟨rfl,rfl⟩,HTL.out.1,.inr (.inl ⟨.inl rfl,HTL.out.2,rfl,rfl,rfl⟩)⟩,(HC1.out.tr HC4.out).trans (kt_new hw7) (fun _ _ e=>e) (fun j hj e=>by omega)⟩
   ·go_wp2_with (first
      | (refine store_R rfl 34 _ _ rfl (w.heap.size + 1) #[.int .i64 4,.string ta,.string ⟨#[]⟩,.int .i64 0,.int .i64 0,.slice none 0 0,.int .i64 0,.int .i64 0] rfl rfl 34 _ qO (by rw [szOp];rfl) rfl (by simp [Value.oneCell']) ?_;intro w7 hw7)
      | fail)
    exact bodyPost_ret (v:=.agg #[.int .i64 4,.string ta,.string ⟨#[]⟩,.int .i64 0,.int .i64 0,.slice none 0 0,.int .i64 0,.int .i64 0]) (results_R1 Tryz.results8 _ _ (w.heap.size + 1) _ 34 _ Tryz.underlying34 rfl (by rw [szOp];rfl) rfl hw7.here) rfl ⟨_,rfl,⟨4,0,0,ta,⟨#[]⟩,none,0,0,rfl,.inl ⟨rfl,rfl⟩,HTL.out.1,.inr (.inr (.inl ⟨.inl rfl,rfl,rfl,rfl,rfl⟩))⟩,(HC1.out.tr HC4.out).trans (kt_new hw7) (fun _ _ e=>e) (fun j hj e=>by omega)⟩
   ·go_wp2_with (first
      | (refine store_R rfl 34 _ _ rfl (w.heap.size + 1) #[.int .i64 5,.string ta,.string ⟨#[]⟩,.int .i64 0,.int .i64 0,.slice none 0 0,.int .i64 0,.int .i64 0] rfl rfl 34 _ qO (by rw [szOp];rfl) rfl (by simp [Value.oneCell']) ?_;intro w7 hw7)
      | fail)
    exact bodyPost_ret (v:=.agg #[.int .i64 5,.string ta,.string ⟨#[]⟩,.int .i64 0,.int .i64 0,.slice none 0 0,.int .i64 0,.int .i64 0]) (results_R1 Tryz.results8 _ _ (w.heap.size + 1) _ 34 _ Tryz.underlying34 rfl (by rw [szOp];rfl) rfl hw7.here) rfl ⟨_,rfl,⟨5,0,0,ta,⟨#[]⟩,none,0,0,rfl,.inl ⟨rfl,rfl⟩,HTL.out.1,.inr (.inr (.inl ⟨.inr rfl,rfl,rfl,rfl,rfl⟩))⟩,(HC1.out.tr HC4.out).trans (kt_new hw7) (fun _ _ e=>e) (fun j hj e=>by omega)⟩
   ·go_wp2_with (first
      | (refine store_R rfl 34 _ _ rfl (w.heap.size + 1) #[.int .i64 6,.string ta,.string tb,.int .i64 0,.int .i64 0,.slice none 0 0,.int .i64 0,.int .i64 0] rfl rfl 34 _ qO (by rw [szOp];rfl) rfl (by simp [Value.oneCell']) ?_;intro w7 hw7)
      | fail)
    exact bodyPost_ret (v:=.agg #[.int .i64 6,.string ta,.string tb,.int .i64 0,.int .i64 0,.slice none 0 0,.int .i64 0,.int .i64 0]) (results_R1 Tryz.results8 _ _ (w.heap.size + 1) _ 34 _ Tryz.underlying34 rfl (by rw [szOp];rfl) rfl hw7.here) rfl ⟨_,rfl,⟨6,0,0,ta,tb,none,0,0,rfl,.inl ⟨rfl,rfl⟩,HTL.out.1,.inr (.inl ⟨.inr rfl,HTL.out.2,rfl,rfl,rfl⟩)⟩,(HC1.out.tr HC4.out).trans (kt_new hw7) (fun _ _ e=>e) (fun j hj e=>by omega)⟩
   ·go_wp2_with (first
      | (refine store_R rfl 34 _ _ rfl (w.heap.size + 1) #[.int .i64 6,.string ta,.string tb,.int .i64 0,.int .i64 0,.slice none 0 0,.int .i64 0,.int .i64 0] rfl rfl 34 _ qO (by rw [szOp];rfl) rfl (by simp [Value.oneCell']) ?_;intro w7 hw7)
      | fail)
    exact bodyPost_ret (v:=.agg #[.int .i64 6,.string ta,.string tb,.int .i64 0,.int .i64 0,.slice none 0 0,.int .i64 0,.int .i64 0]) (results_R1 Tryz.results8 _ _ (w.heap.size + 1) _ 34 _ Tryz.underlying34 rfl (by rw [szOp];rfl) rfl hw7.here) rfl ⟨_,rfl,⟨6,0,0,ta,tb,none,0,0,rfl,.inl ⟨rfl,rfl⟩,HTL.out.1,.inr (.inl ⟨.inr rfl,HTL.out.2,rfl,rfl,rfl⟩)⟩,(HC1.out.tr HC4.out).trans (kt_new hw7) (fun _ _ e=>e) (fun j hj e=>by omega)⟩
   ·go_wp2_with (first
      | (refine store_R rfl 34 _ _ rfl (w.heap.size + 1) #[.int .i64 7,.string ta,.string ⟨#[]⟩,.int .i64 of,.int .i64 0,.slice (some ad) 3000 dc,.int .i64 0,.int .i64 0] rfl rfl 34 _ qO (by rw [szOp];rfl) rfl (by simp [Value.oneCell']) ?_;intro w7 hw7)
      | fail)
    exact bodyPost_ret (v:=.agg #[.int .i64 7,.string ta,.string ⟨#[]⟩,.int .i64 of,.int .i64 0,.slice (some ad) 3000 dc,.int .i64 0,.int .i64 0]) (results_R1 Tryz.results8 _ _ (w.heap.size + 1) _ 34 _ Tryz.underlying34 rfl (by rw [szOp];rfl) rfl hw7.here) rfl ⟨_,rfl,⟨7,0,of,ta,⟨#[]⟩,some ad,3000,dc,rfl,.inr ⟨rfl,by omega,rfl⟩,HTL.out.1,.inr (.inr (.inr (.inl ⟨rfl,rfl,HOf.out,by omega,rfl⟩)))⟩,(HC1.out.tr HC4.out).trans (kt_new hw7) (fun _ _ e=>e) (fun j hj e=>by omega)⟩
   ·go_wp2_with (first
      | (refine store_R rfl 34 _ _ rfl (w.heap.size + 1) #[.int .i64 7,.string ta,.string ⟨#[]⟩,.int .i64 of,.int .i64 0,.slice (some ad) 3000 dc,.int .i64 0,.int .i64 0] rfl rfl 34 _ qO (by rw [szOp];rfl) rfl (by simp [Value.oneCell']) ?_;intro w7 hw7)
      | fail)
    exact bodyPost_ret (v:=.agg #[.int .i64 7,.string ta,.string ⟨#[]⟩,.int .i64 of,.int .i64 0,.slice (some ad) 3000 dc,.int .i64 0,.int .i64 0]) (results_R1 Tryz.results8 _ _ (w.heap.size + 1) _ 34 _ Tryz.underlying34 rfl (by rw [szOp];rfl) rfl hw7.here) rfl ⟨_,rfl,⟨7,0,of,ta,⟨#[]⟩,some ad,3000,dc,rfl,.inr ⟨rfl,by omega,rfl⟩,HTL.out.1,.inr (.inr (.inr (.inl ⟨rfl,rfl,HOf.out,by omega,rfl⟩)))⟩,(HC1.out.tr HC4.out).trans (kt_new hw7) (fun _ _ e=>e) (fun j hj e=>by omega)⟩
   ·go_wp2_with (first
      | (refine store_R rfl 34 _ _ rfl (w.heap.size + 1) #[.int .i64 7,.string ta,.string ⟨#[]⟩,.int .i64 of,.int .i64 0,.slice (some ad) 3000 dc,.int .i64 0,.int .i64 0] rfl rfl 34 _ qO (by rw [szOp];rfl) rfl (by simp [Value.oneCell']) ?_;intro w7 hw7)
      | fail)
    exact bodyPost_ret (v:=.agg #[.int .i64 7,.string ta,.string ⟨#[]⟩,.int .i64 of,.int .i64 0,.slice (some ad) 3000 dc,.int .i64 0,.int .i64 0]) (results_R1 Tryz.results8 _ _ (w.heap.size + 1) _ 34 _ Tryz.underlying34 rfl (by rw [szOp];rfl) rfl hw7.here) rfl ⟨_,rfl,⟨7,0,of,ta,⟨#[]⟩,some ad,3000,dc,rfl,.inr ⟨rfl,by omega,rfl⟩,HTL.out.1,.inr (.inr (.inr (.inl ⟨rfl,rfl,HOf.out,by omega,rfl⟩)))⟩,(HC1.out.tr HC4.out).trans (kt_new hw7) (fun _ _ e=>e) (fun j hj e=>by omega)⟩
   ·go_wp2_with (first
      | (refine store_R rfl 34 _ _ rfl (w.heap.size + 1) #[.int .i64 8,.string ta,.string ⟨#[]⟩,.int .i64 of,.int .i64 0,.slice none 0 0,.int .i64 0,.int .i64 0] rfl rfl 34 _ qO (by rw [szOp];rfl) rfl (by simp [Value.oneCell']) ?_;intro w7 hw7)
      | fail)
    exact bodyPost_ret (v:=.agg #[.int .i64 8,.string ta,.string ⟨#[]⟩,.int .i64 of,.int .i64 0,.slice none 0 0,.int .i64 0,.int .i64 0]) (results_R1 Tryz.results8 _ _ (w.heap.size + 1) _ 34 _ Tryz.underlying34 rfl (by rw [szOp];rfl) rfl hw7.here) rfl ⟨_,rfl,⟨8,0,of,ta,⟨#[]⟩,none,0,0,rfl,.inl ⟨rfl,rfl⟩,HTL.out.1,.inr (.inr (.inr (.inr ⟨rfl,rfl,HOf.out,rfl,rfl⟩)))⟩,(HC1.out.tr HC4.out).trans (kt_new hw7) (fun _ _ e=>e) (fun j hj e=>by omega)⟩
  ·have l1 : ¬ (3000:Int) < (dl:Int):=by omega
   go_upto_region 8 with (go_at_call 17;go_must (refine hPk.mono ?_;rintro e w5 ⟨rfl,rfl⟩))
   obtain ⟨k0,k1⟩:=HKb.out
   have hcs:rk=0∨rk=1∨rk=2∨rk=3∨rk=4∨rk=5∨rk=6∨rk=7∨rk=8∨rk=9∨rk=10∨rk=11∨rk=12∨rk=13:=by omega
   clear k0 k1 hPk HKb HPk
   skip
   rcases hcs with rfl | rfl | rfl | rfl | rfl | rfl | rfl | rfl | rfl | rfl | rfl | rfl | rfl | rfl
   ·go_wp2_with (first
      | (go_at_call 17;go_must (refine hPn.mono ?_;rintro e w6 ⟨rfl,rfl⟩))
      | (refine store_R rfl 34 _ _ rfl (w.heap.size + 1) #[.int .i64 1,.string ta,.string ⟨#[]⟩,.int .i64 0,.int .i64 0,.slice none 0 0,.int .i64 rn,.int .i64 0] rfl rfl 34 _ qO (by rw [szOp];rfl) rfl (by simp [Value.oneCell']) ?_;intro w7 hw7)
      | fail)
    exact bodyPost_ret (v:=.agg #[.int .i64 1,.string ta,.string ⟨#[]⟩,.int .i64 0,.int .i64 0,.slice none 0 0,.int .i64 rn,.int .i64 0]) (results_R1 Tryz.results8 _ _ (w.heap.size + 1) _ 34 _ Tryz.underlying34 rfl (by rw [szOp];rfl) rfl hw7.here) rfl ⟨_,rfl,⟨1,rn,0,ta,⟨#[]⟩,none,0,0,rfl,.inl ⟨rfl,rfl⟩,HTL.out.1,.inl ⟨.inl rfl,rfl,rfl,rfl,HRn0.out⟩⟩,(HC1.out.tr HC4.out).trans (kt_new hw7) (fun _ _ e=>e) (fun j hj e=>by omega)⟩
   ·go_wp2_with (first
      | (go_at_call 17;go_must (refine hPn.mono ?_;rintro e w6 ⟨rfl,rfl⟩))
      | (refine store_R rfl 34 _ _ rfl (w.heap.size + 1) #[.int .i64 1,.string ta,.string ⟨#[]⟩,.int .i64 0,.int .i64 0,.slice none 0 0,.int .i64 rn,.int .i64 0] rfl rfl 34 _ qO (by rw [szOp];rfl) rfl (by simp [Value.oneCell']) ?_;intro w7 hw7)
      | fail)
    exact bodyPost_ret (v:=.agg #[.int .i64 1,.string ta,.string ⟨#[]⟩,.int .i64 0,.int .i64 0,.slice none 0 0,.int .i64 rn,.int .i64 0]) (results_R1 Tryz.results8 _ _ (w.heap.size + 1) _ 34 _ Tryz.underlying34 rfl (by rw [szOp];rfl) rfl hw7.here) rfl ⟨_,rfl,⟨1,rn,0,ta,⟨#[]⟩,none,0,0,rfl,.inl ⟨rfl,rfl⟩,HTL.out.1,.inl ⟨.inl rfl,rfl,rfl,rfl,HRn0.out⟩⟩,(HC1.out.tr HC4.out).trans (kt_new hw7) (fun _ _ e=>e) (fun j hj e=>by omega)⟩
   ·go_wp2_with (first
      | (go_at_call 17;go_must (refine hPn.mono ?_;rintro e w6 ⟨rfl,rfl⟩))
      | (refine store_R rfl 34 _ _ rfl (w.heap.size + 1) #[.int .i64 1,.string ta,.string ⟨#[]⟩,.int .i64 0,.int .i64 0,.slice none 0 0,.int .i64 rn,.int .i64 0] rfl rfl 34 _ qO (by rw [szOp];rfl) rfl (by simp [Value.oneCell']) ?_;intro w7 hw7)
      | fail)
    exact bodyPost_ret (v:=.agg #[.int .i64 1,.string ta,.string ⟨#[]⟩,.int .i64 0,.int .i64 0,.slice none 0 0,.int .i64 rn,.int .i64 0]) (results_R1 Tryz.results8 _ _ (w.heap.size + 1) _ 34 _ Tryz.underlying34 rfl (by rw [szOp];rfl) rfl hw7.here) rfl ⟨_,rfl,⟨1,rn,0,ta,⟨#[]⟩,none,0,0,rfl,.inl ⟨rfl,rfl⟩,HTL.out.1,.inl ⟨.inl rfl,rfl,rfl,rfl,HRn0.out⟩⟩,(HC1.out.tr HC4.out).trans (kt_new hw7) (fun _ _ e=>e) (fun j hj e=>by omega)⟩
   ·go_wp2_with (first
      | (go_at_call 17;go_must (refine hPn.mono ?_;rintro e w6 ⟨rfl,rfl⟩))
      | (refine store_R rfl 34 _ _ rfl (w.heap.size + 1) #[.int .i64 2,.string ta,.string ⟨#[]⟩,.int .i64 0,.int .i64 0,.slice none 0 0,.int .i64 rn,.int .i64 0] rfl rfl 34 _ qO (by rw [szOp];rfl) rfl (by simp [Value.oneCell']) ?_;intro w7 hw7)
      | fail)
    exact bodyPost_ret (v:=.agg #[.int .i64 2,.string ta,.string ⟨#[]⟩,.int .i64 0,.int .i64 0,.slice none 0 0,.int .i64 rn,.int .i64 0]) (results_R1 Tryz.results8 _ _ (w.heap.size + 1) _ 34 _ Tryz.underlying34 rfl (by rw [szOp];rfl) rfl hw7.here) rfl ⟨_,rfl,⟨2,rn,0,ta,⟨#[]⟩,none,0,0,rfl,.inl ⟨rfl,rfl⟩,HTL.out.1,.inl ⟨.inr rfl,rfl,rfl,rfl,HRn0.out⟩⟩,(HC1.out.tr HC4.out).trans (kt_new hw7) (fun _ _ e=>e) (fun j hj e=>by omega)⟩
   ·go_wp2_with (first
      | (go_at_call 17;go_must (refine hPn.mono ?_;rintro e w6 ⟨rfl,rfl⟩))
      | (refine store_R rfl 34 _ _ rfl (w.heap.size + 1) #[.int .i64 2,.string ta,.string ⟨#[]⟩,.int .i64 0,.int .i64 0,.slice none 0 0,.int .i64 rn,.int .i64 0] rfl rfl 34 _ qO (by rw [szOp];rfl) rfl (by simp [Value.oneCell']) ?_;intro w7 hw7)
      | fail)
    exact bodyPost_ret (v:=.agg #[.int .i64 2,.string ta,.string ⟨#[]⟩,.int .i64 0,.int .i64 0,.slice none 0 0,.int .i64 rn,.int .i64 0]) (results_R1 Tryz.results8 _ _ (w.heap.size + 1) _ 34 _ Tryz.underlying34 rfl (by rw [szOp];rfl) rfl hw7.here) rfl ⟨_,rfl,⟨2,rn,0,ta,⟨#[]⟩,none,0,0,rfl,.inl ⟨rfl,rfl⟩,HTL.out.1,.inl ⟨.inr rfl,rfl,rfl,rfl,HRn0.out⟩⟩,(HC1.out.tr HC4.out).trans (kt_new hw7) (fun _ _ e=>e) (fun j hj e=>by omega)⟩
   ·go_wp2_with (first
      | (refine store_R rfl 34 _ _ rfl (w.heap.size + 1) #[.int .i64 3,.string ta,.string tb,.int .i64 0,.int .i64 0,.slice none 0 0,.int .i64 0,.int .i64 0] rfl rfl 34 _ qO (by rw [szOp];rfl) rfl (by simp [Value.oneCell']) ?_;intro w7 hw7)
      | fail)
    exact bodyPost_ret (v:=.agg #[.int .i64 3,.string ta,.string tb,.int .i64 0,.int .i64 0,.slice none 0 0,.int .i64 0,.int .i64 0]) (results_R1 Tryz.results8 _ _ (w.heap.size + 1) _ 34 _ Tryz.underlying34 rfl (by rw [szOp];rfl) rfl hw7.here) rfl ⟨_,rfl,⟨3,0,0,ta,tb,none,0,0,rfl,.inl ⟨rfl,rfl⟩,HTL.out.1,.inr (.inl ⟨.inl rfl,HTL.out.2,rfl,rfl,rfl⟩)⟩,(HC1.out.tr HC4.out).trans (kt_new hw7) (fun _ _ e=>e) (fun j hj e=>by omega)⟩
   ·go_wp2_with (first
      | (refine store_R rfl 34 _ _ rfl (w.heap.size + 1) #[.int .i64 4,.string ta,.string ⟨#[]⟩,.int .i64 0,.int .i64 0,.slice none 0 0,.int .i64 0,.int .i64 0] rfl rfl 34 _ qO (by rw [szOp];rfl) rfl (by simp [Value.oneCell']) ?_;intro w7 hw7)
      | fail)
    exact bodyPost_ret (v:=.agg #[.int .i64 4,.string ta,.string ⟨#[]⟩,.int .i64 0,.int .i64 0,.slice none 0 0,.int .i64 0,.int .i64 0]) (results_R1 Tryz.results8 _ _ (w.heap.size + 1) _ 34 _ Tryz.underlying34 rfl (by rw [szOp];rfl) rfl hw7.here) rfl ⟨_,rfl,⟨4,0,0,ta,⟨#[]⟩,none,0,0,rfl,.inl ⟨rfl,rfl⟩,HTL.out.1,.inr (.inr (.inl ⟨.inl rfl,rfl,rfl,rfl,rfl⟩))⟩,(HC1.out.tr HC4.out).trans (kt_new hw7) (fun _ _ e=>e) (fun j hj e=>by omega)⟩
   ·go_wp2_with (first
      | (refine store_R rfl 34 _ _ rfl (w.heap.size + 1) #[.int .i64 5,.string ta,.string ⟨#[]⟩,.int .i64 0,.int .i64 0,.slice none 0 0,.int .i64 0,.int .i64 0] rfl rfl 34 _ qO (by rw [szOp];rfl) rfl (by simp [Value.oneCell']) ?_;intro w7 hw7)
      | fail)
    exact bodyPost_ret (v:=.agg #[.int .i64 5,.string ta,.string ⟨#[]⟩,.int .i64 0,.int .i64 0,.slice none 0 0,.int .i64 0,.int .i64 0]) (results_R1 Tryz.results8 _ _ (w.heap.size + 1) _ 34 _ Tryz.underlying34 rfl (by rw [szOp];rfl) rfl hw7.here) rfl ⟨_,rfl,⟨5,0,0,ta,⟨#[]⟩,none,0,0,rfl,.inl ⟨rfl,rfl⟩,HTL.out.1,.inr (.inr (.inl ⟨.inr rfl,rfl,rfl,rfl,rfl⟩))⟩,(HC1.out.tr HC4.out).trans (kt_new hw7) (fun _ _ e=>e) (fun j hj e=>by omega)⟩
   ·go_wp2_with (first
      | (refine store_R rfl 34 _ _ rfl (w.heap.size + 1) #[.int .i64 6,.string ta,.string tb,.int .i64 0,.int .i64 0,.slice none 0 0,.int .i64 0,.int .i64 0] rfl rfl 34 _ qO (by rw [szOp];rfl) rfl (by simp [Value.oneCell']) ?_;intro w7 hw7)
      | fail)
    exact bodyPost_ret (v:=.agg #[.int .i64 6,.string ta,.string tb,.int .i64 0,.int .i64 0,.slice none 0 0,.int .i64 0,.int .i64 0]) (results_R1 Tryz.results8 _ _ (w.heap.size + 1) _ 34 _ Tryz.underlying34 rfl (by rw [szOp];rfl) rfl hw7.here) rfl ⟨_,rfl,⟨6,0,0,ta,tb,none,0,0,rfl,.inl ⟨rfl,rfl⟩,HTL.out.1,.inr (.inl ⟨.inr rfl,HTL.out.2,rfl,rfl,rfl⟩)⟩,(HC1.out.tr HC4.out).trans (kt_new hw7) (fun _ _ e=>e) (fun j hj e=>by omega)⟩
   ·go_wp2_with (first
      | (refine store_R rfl 34 _ _ rfl (w.heap.size + 1) #[.int .i64 6,.string ta,.string tb,.int .i64 0,.int .i64 0,.slice none 0 0,.int .i64 0,.int .i64 0] rfl rfl 34 _ qO (by rw [szOp];rfl) rfl (by simp [Value.oneCell']) ?_;intro w7 hw7)
      | fail)
    exact bodyPost_ret (v:=.agg #[.int .i64 6,.string ta,.string tb,.int .i64 0,.int .i64 0,.slice none 0 0,.int .i64 0,.int .i64 0]) (results_R1 Tryz.results8 _ _ (w.heap.size + 1) _ 34 _ Tryz.underlying34 rfl (by rw [szOp];rfl) rfl hw7.here) rfl ⟨_,rfl,⟨6,0,0,ta,tb,none,0,0,rfl,.inl ⟨rfl,rfl⟩,HTL.out.1,.inr (.inl ⟨.inr rfl,HTL.out.2,rfl,rfl,rfl⟩)⟩,(HC1.out.tr HC4.out).trans (kt_new hw7) (fun _ _ e=>e) (fun j hj e=>by omega)⟩
   ·go_wp2_with (first
      | (refine store_R rfl 34 _ _ rfl (w.heap.size + 1) #[.int .i64 7,.string ta,.string ⟨#[]⟩,.int .i64 of,.int .i64 0,.slice da dl dc,.int .i64 0,.int .i64 0] rfl rfl 34 _ qO (by rw [szOp];rfl) rfl (by simp [Value.oneCell']) ?_;intro w7 hw7)
      | fail)
    exact bodyPost_ret (v:=.agg #[.int .i64 7,.string ta,.string ⟨#[]⟩,.int .i64 of,.int .i64 0,.slice da dl dc,.int .i64 0,.int .i64 0]) (results_R1 Tryz.results8 _ _ (w.heap.size + 1) _ 34 _ Tryz.underlying34 rfl (by rw [szOp];rfl) rfl hw7.here) rfl ⟨_,rfl,⟨7,0,of,ta,⟨#[]⟩,da,dl,dc,rfl,.inr ⟨rfl,by omega,rfl⟩,HTL.out.1,.inr (.inr (.inr (.inl ⟨rfl,rfl,HOf.out,by omega,rfl⟩)))⟩,(HC1.out.tr HC4.out).trans (kt_new hw7) (fun _ _ e=>e) (fun j hj e=>by omega)⟩
   ·go_wp2_with (first
      | (refine store_R rfl 34 _ _ rfl (w.heap.size + 1) #[.int .i64 7,.string ta,.string ⟨#[]⟩,.int .i64 of,.int .i64 0,.slice da dl dc,.int .i64 0,.int .i64 0] rfl rfl 34 _ qO (by rw [szOp];rfl) rfl (by simp [Value.oneCell']) ?_;intro w7 hw7)
      | fail)
    exact bodyPost_ret (v:=.agg #[.int .i64 7,.string ta,.string ⟨#[]⟩,.int .i64 of,.int .i64 0,.slice da dl dc,.int .i64 0,.int .i64 0]) (results_R1 Tryz.results8 _ _ (w.heap.size + 1) _ 34 _ Tryz.underlying34 rfl (by rw [szOp];rfl) rfl hw7.here) rfl ⟨_,rfl,⟨7,0,of,ta,⟨#[]⟩,da,dl,dc,rfl,.inr ⟨rfl,by omega,rfl⟩,HTL.out.1,.inr (.inr (.inr (.inl ⟨rfl,rfl,HOf.out,by omega,rfl⟩)))⟩,(HC1.out.tr HC4.out).trans (kt_new hw7) (fun _ _ e=>e) (fun j hj e=>by omega)⟩
   ·go_wp2_with (first
      | (refine store_R rfl 34 _ _ rfl (w.heap.size + 1) #[.int .i64 7,.string ta,.string ⟨#[]⟩,.int .i64 of,.int .i64 0,.slice da dl dc,.int .i64 0,.int .i64 0] rfl rfl 34 _ qO (by rw [szOp];rfl) rfl (by simp [Value.oneCell']) ?_;intro w7 hw7)
      | fail)
    exact bodyPost_ret (v:=.agg #[.int .i64 7,.string ta,.string ⟨#[]⟩,.int .i64 of,.int .i64 0,.slice da dl dc,.int .i64 0,.int .i64 0]) (results_R1 Tryz.results8 _ _ (w.heap.size + 1) _ 34 _ Tryz.underlying34 rfl (by rw [szOp];rfl) rfl hw7.here) rfl ⟨_,rfl,⟨7,0,of,ta,⟨#[]⟩,da,dl,dc,rfl,.inr ⟨rfl,by omega,rfl⟩,HTL.out.1,.inr (.inr (.inr (.inl ⟨rfl,rfl,HOf.out,by omega,rfl⟩)))⟩,(HC1.out.tr HC4.out).trans (kt_new hw7) (fun _ _ e=>e) (fun j hj e=>by omega)⟩
   ·go_wp2_with (first
      | (refine store_R rfl 34 _ _ rfl (w.heap.size + 1) #[.int .i64 8,.string ta,.string ⟨#[]⟩,.int .i64 of,.int .i64 0,.slice none 0 0,.int .i64 0,.int .i64 0] rfl rfl 34 _ qO (by rw [szOp];rfl) rfl (by simp [Value.oneCell']) ?_;intro w7 hw7)
      | fail)
    exact bodyPost_ret (v:=.agg #[.int .i64 8,.string ta,.string ⟨#[]⟩,.int .i64 of,.int .i64 0,.slice none 0 0,.int .i64 0,.int .i64 0]) (results_R1 Tryz.results8 _ _ (w.heap.size + 1) _ 34 _ Tryz.underlying34 rfl (by rw [szOp];rfl) rfl hw7.here) rfl ⟨_,rfl,⟨8,0,of,ta,⟨#[]⟩,none,0,0,rfl,.inl ⟨rfl,rfl⟩,HTL.out.1,.inr (.inr (.inr (.inr ⟨rfl,rfl,HOf.out,rfl,rfl⟩)))⟩,(HC1.out.tr HC4.out).trans (kt_new hw7) (fun _ _ e=>e) (fun j hj e=>by omega)⟩
end Go.Proofs.YtmgfilacepnjlaaGreatDoor
