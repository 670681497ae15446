/-
 The statements' own helpers pick, text.
-/
import Derived.Test.YtmgfilacepnjlaaGreatDoorPB
namespace Go.Proofs.YtmgfilacepnjlaaGreatDoor
open Go.RowKit

def pickN (c n:Int):Int:=(if c < 0 then -(c + 1) else c) % n
theorem pickN_bd (c:Int) {n:Int} (hn:1≤n):0≤pickN c n∧pickN c n < n :=
 ⟨Int.emod_nonneg _ (by omega),Int.emod_lt_of_pos _ (by omega)⟩
set_option maxHeartbeats 400000 in
theorem pick_any (c n:Int) (w:World) (hc:I64 c) (hn:1≤n) (hn2:n≤4611686018427387904) :
  Calls Tryz.prog 17 #[.int .i64 c,.int .i64 n] w fun e w'=>e=.returned (.int .i64 (pickN c n))∧w=w':=by
 obtain ⟨h0,h1⟩:=hc
 have hn0:(n == 0)=false:=by simp;omega
 by_cases h:c < 0
 ·have HP:Hid (pickN c n=(-(c + 1)) % n):=by show _=_;rw [pickN,if_pos h]
  go_enter Tryz.func17,Tryz.ntmps17
  go_wp2
  go_ret
  exact ⟨ret_int (by rw [HP.out,←Int.tmod_eq_emod_of_nonneg (by omega),Int.neg_tmod]),rfl⟩
 ·have HP:Hid (pickN c n=c % n):=by show _=_;rw [pickN,if_neg h]
  have h':0≤c:=by omega
  go_enter Tryz.func17,Tryz.ntmps17
  go_wp2
  go_ret
  exact ⟨ret_int (by rw [HP.out]),rfl⟩

def textL:List ByteArray:=[⟨#[47,97]⟩,⟨#[47,98]⟩,⟨#[47,99]⟩,⟨#[47,100]⟩,⟨#[47,100,47,97]⟩,⟨#[47,100,47,98]⟩,⟨#[47,100,47,101]⟩,⟨#[47,100,47,101,47,97]⟩,⟨#[47,100,47,101,47,102]⟩,⟨#[47,99,47,97]⟩,⟨#[47,99,47,98]⟩,⟨#[47,98,47,97]⟩,⟨#[47,97,47,97]⟩,⟨#[47,100,47,101,47,102,47,103]⟩,⟨#[47,99,47,97,47,98]⟩]
def textN (n:Int):ByteArray:=textL.getD (pickN n 15).toNat ByteArray.empty
set_option maxHeartbeats 2000000 in
set_option maxRecDepth 100000 in
theorem text_any (n:Int) (w:World) (hn:I64 n):Calls Tryz.prog 15 #[.int .i64 n] w fun e w'=>e=.returned (.string (textN n))∧Chg w w' No:=by
 obtain ⟨b0,b1⟩:=pickN_bd n (n:=15) (by omega)
 have hP:∀ W,Calls Tryz.prog 17 #[.int .i64 n,.int .i64 15] W fun e w'=>e=.returned (.int .i64 (pickN n 15))∧W=w':=fun W=>pick_any n 15 W hn (by omega) (by omega)
 unfold textN;obtain ⟨r,hr⟩:∃ y,y=pickN n 15:=⟨_,rfl⟩;rw [←hr] at b0 b1 hP ⊢;clear hr
 have hcs:r=0∨r=1∨r=2∨r=3∨r=4∨r=5∨r=6∨r=7∨r=8∨r=9∨r=10∨r=11∨r=12∨r=13∨r=14:=by omega
 clear b0 b1 hn
 rcases hcs with rfl | rfl | rfl | rfl | rfl | rfl | rfl | rfl | rfl | rfl | rfl | rfl | rfl | rfl | rfl <;>
 ·go_enter Tryz.func15,Tryz.ntmps15
  go_wp2_with (first
   | (go_at_call 17;go_must (refine (hP _).mono ?_;rintro e w2 ⟨rfl,rfl⟩))
   | fail)
  go_ret
  exact ⟨rfl,Chg.alloc w _ No⟩
theorem tdiv_bd (n m:Int) (hm:1≤m) (hn:I64 n):I64 (Int.tdiv n m):=by
 obtain ⟨h0,h1⟩:=hn
 by_cases h:0≤n
 ·rw [Int.tdiv_eq_ediv_of_nonneg h]
  have:=Int.ediv_le_self m h;have:=Int.ediv_nonneg h (show 0≤m by omega)
  constructor <;> omega
 ·obtain ⟨k,rfl⟩:∃ k,n = -k:=⟨-n,by omega⟩
  rw [Int.neg_tdiv,Int.tdiv_eq_ediv_of_nonneg (by omega)];have:=Int.ediv_le_self (a:=k) m (by omega);have:=Int.ediv_nonneg (a:=k) (show 0≤k by omega) (show 0≤m by omega)
  constructor <;> omega
end Go.Proofs.YtmgfilacepnjlaaGreatDoor
